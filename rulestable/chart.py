"""Charts: which parts of a row are yields of which symbols, with trees; and what a row has by all its trees."""

from rulestable.books import need_small
from rulestable.trees import Leaf, Node, put_in
from rulestable.words import is_head, need_row

MOST_IN_ROW = 10


def need_small_and_row(grammar, row):
    """Refuse a vast grammar, then what is no row of at most ten signs."""
    need_small(grammar)
    need_row(row, MOST_IN_ROW)


# Spans are kept in a dict: its keys are (symbol, i, j), its values grounds (size, number, places) of a smallest tree.
# The number is None for a leaf; the places are those at which the body's symbols begin, and last the end.


def leaf_spans(row):
    """Tell the spans of the signs of a row."""
    spans = {}
    for place, sign in enumerate(row):
        spans[(sign, place, place + 1)] = (1, None, ())
    return spans


def goings(body, begin, last, spans):
    """Tell for each place to which the body goes from begin, symbol by symbol, (size, places) of a smallest going."""
    told = {begin: (1, (begin,))}
    for symbol in body:
        further = {}
        for place, going in told.items():
            for end in range(place, last + 1):
                if (symbol, place, end) in spans:
                    size = going[0] + spans[(symbol, place, end)][0]
                    if end not in further or size < further[end][0]:
                        further[end] = (size, going[1] + (end,))
        told = further
    return told


def grow_from(grammar, begin, last, spans):
    """Put all spans of heads from begin on among the spans, those that begin farther on being there already."""
    changed = True
    while changed:
        changed = False
        for number, rule in enumerate(grammar.rules):
            found = goings(rule[1], begin, last, spans)
            for end, going in found.items():
                key = (rule[0], begin, end)
                if key not in spans or going[0] < spans[key][0]:
                    spans[key] = (going[0], number, going[1])
                    changed = True


def spans_of(grammar, row):
    """Tell all spans of the symbols in a row."""
    spans = leaf_spans(row)
    for begin in range(len(row), -1, -1):
        grow_from(grammar, begin, len(row), spans)
    return spans


def parts_by(body, places):
    """Tell the spans of the symbols of a body that goes by these places."""
    return list(zip(body, places, places[1:]))


def trees_by(grammar, spans):
    """Tell for each span a smallest tree."""
    trees = {}
    # The children in a smallest tree are smaller than it, so they are there when they are needed.
    for key in sorted(spans, key=lambda known: spans[known][0]):
        number = spans[key][1]
        if number is None:
            trees[key] = Leaf(key[0])
        else:
            trees[key] = Node(number, [trees[part] for part in parts_by(grammar.body_of(number), spans[key][2])])
    return trees


class Chart:
    """All spans of the symbols of a grammar in a row."""

    def __init__(self, grammar, row):
        need_small_and_row(grammar, row)
        self.spans = spans_of(grammar, row)
        self.trees = trees_by(grammar, self.spans)

    def has(self, symbol, i, j):
        """Tell whether the symbol has the span from i to j."""
        return (symbol, i, j) in self.trees

    def tells(self):
        """Tell all spans of heads, rising."""
        return sorted([key for key in self.trees if is_head(key[0])])

    def grown(self, symbol, i, j):
        """Tell a smallest tree of the span, or None."""
        return self.trees.get((symbol, i, j))


def is_closed_chart(grammar, row, triples):
    """Tell whether each rule leads from the triples and the row's signs to one of the triples."""
    need_small_and_row(grammar, row)
    spans = leaf_spans(row)
    for triple in triples:
        # A sign goes from where it stands in the row alone, whatever the triples say of it.
        if is_head(triple[0]):
            spans[triple] = (1, None, ())
    for head, body in grammar.rules:
        for begin in range(len(row) + 1):
            for end in goings(body, begin, len(row), spans):
                if (head, begin, end) not in spans:
                    return False
    return True


def tree_for(grammar, row):
    """Tell a smallest tree of the start with this row as its yield, or None."""
    return Chart(grammar, row).grown(grammar.start, 0, len(row))


def all_goings(body, begin, end, spans):
    """Tell the places of each going of the body from begin to end."""
    told = [(begin,)]
    for symbol in body:
        further = []
        for places in told:
            ends = [place for place in range(places[-1], end + 1) if (symbol, places[-1], place) in spans]
            further.extend([places + (place,) for place in ends])
        told = further
    return [places for places in told if places[-1] == end]


def other_tree(grammar, chart, key):
    """Tell a tree of a head's span that is unlike the chart's own one by its rule, or by where its children end."""
    own = chart.spans[key]
    for number in grammar.numbers_of(key[0]):
        body = grammar.body_of(number)
        for places in all_goings(body, key[1], key[2], chart.spans):
            if (number, places) != (own[1], own[2]):
                return Node(number, [chart.trees[part] for part in parts_by(body, places)])
    return None


def two_trees(grammar, row):
    """Tell two unlike trees of the start with this row as their yield, or None."""
    chart = Chart(grammar, row)
    whole = (grammar.start, 0, len(row))
    if whole not in chart.trees:
        return None
    # Where no span in the chart's own tree can be built up otherwise, no other tree can part from it anywhere.
    waiting = [(whole, [])]
    seen = {whole: True}
    while len(waiting) > 0:
        place = waiting.pop()
        other = other_tree(grammar, chart, place[0])
        if other is not None:
            return (chart.trees[whole], put_in(chart.trees[whole], place[1], other))
        ground = chart.spans[place[0]]
        for child, part in enumerate(parts_by(grammar.body_of(ground[1]), ground[2])):
            if is_head(part[0]) and part not in seen:
                seen[part] = True
                waiting.append((part, place[1] + [child]))
    return None


# Tails are kept in a dict: its keys are (symbol, place), its values rows that make with what stands in the row from the
# place on, behind it, the yield of a tree of the symbol. From the row's end on that is the yield itself.


def joined(keys, tails):
    """Tell the tails of these keys one behind the other, None where one of them has none."""
    told = []
    for key in keys:
        if key not in tails:
            return None
        told.extend(tails[key])
    return told


def shortest_tail(body, begin, last, spans, tails):
    """Tell a shortest tail of the body from begin on, by the tails of its symbols, or None."""
    found = []
    if len(body) == 0 and begin == last:
        found.append([])
    for crossing, symbol in enumerate(body):
        beyond = [(other, last) for other in body[crossing + 1:]]
        for place in goings(body[:crossing], begin, last, spans):
            tail = joined([(symbol, place)] + beyond, tails)
            if tail is not None:
                found.append(tail)
    return min(found, key=len, default=None)


def grow_tails(grammar, begin, last, spans, tails):
    """Put a shortest tail of each head from begin on among the tails, those from farther on being there already."""
    changed = True
    while changed:
        changed = False
        for head, body in grammar.rules:
            tail = shortest_tail(body, begin, last, spans, tails)
            key = (head, begin)
            if tail is not None and (key not in tails or len(tail) < len(tails[key])):
                tails[key] = tail
                changed = True


def goes_on(grammar, row):
    """Tell a shortest row that makes with this one, behind it, a row that is let by, or None."""
    need_small_and_row(grammar, row)
    last = len(row)
    spans = spans_of(grammar, row)
    tails = {}
    for sign in grammar.signs():
        tails[(sign, last)] = [sign]
    # A sign ahead of the row's last one ends within the row.
    if last > 0:
        tails[(row[last - 1], last - 1)] = []
    for begin in range(last, -1, -1):
        grow_tails(grammar, begin, last, spans, tails)
    return tails.get((grammar.start, 0))
