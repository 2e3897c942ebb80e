"""Mends: what is let by and comes of a row at the least price, and the table of costs that shows it."""

from rulestable.books import least_sizes, need_small
from rulestable.chart import grow_from, parts_by, trees_by
from rulestable.costs import need_prices, needs_of_signs, parts_of, price_to_leave
from rulestable.errors import Dead

# Spans are kept as in charts, but of a symbol and any part of the row, and with a weight in the place of a size: the
# cost so many times, and the size. On the way down in a smallest tree of least cost no head comes with one part twice,
# so it has some millions of leaves and nodes at most; by this unit costs come first, and sizes where they are equal.
UNIT = 1000000000


def need_start(grammar):
    """Refuse a grammar without any tree of the start."""
    if grammar.start not in least_sizes(grammar):
        raise Dead(0)


def weight_of(cost):
    """Tell the weight of a leaf, or of a node without children, of this cost."""
    return cost * UNIT + 1


def cost_by(weight):
    """Tell the cost in a weight."""
    return weight // UNIT


def childless_spans(grammar, row, prices):
    """Tell the spans of signs and of rules with empty bodies: all of the part is left out but a sign that is kept."""
    spans = {}
    for key, cost in needs_of_signs(grammar, row, prices):
        spans[key] = (weight_of(cost), None, ())
    for number, rule in enumerate(grammar.rules):
        if len(rule[1]) == 0:
            for i, j in parts_of(row):
                spans[(rule[0], i, j)] = (weight_of(price_to_leave(prices, row[i:j])), number, (i, j))
    return spans


def cheapest_spans(grammar, row, prices):
    """Tell for each sign, each fruitful head and each part the span with the least weight."""
    spans = childless_spans(grammar, row, prices)
    for begin in range(len(row), -1, -1):
        grow_from(grammar, begin, len(row), spans)
    return spans


def outs_of(signs):
    """Tell the deeds that leave all these signs out."""
    return [("out", sign) for sign in signs]


def deeds_for(sign, part):
    """Tell the cheapest deeds by which a sign comes of the signs of a part."""
    if sign not in part:
        return outs_of(part) + [("put", sign)]
    place = part.index(sign)
    return outs_of(part[:place]) + [("keep", sign)] + outs_of(part[place + 1:])


def deeds_along(grammar, row, spans, whole):
    """Tell the deeds by which the yield of the tree of a span comes of its part."""
    told = []
    waiting = [whole]
    while len(waiting) > 0:
        key = waiting.pop()
        part = row[key[1]:key[2]]
        number = spans[key][1]
        if number is None:
            told.extend(deeds_for(key[0], part))
        elif len(grammar.body_of(number)) == 0:
            told.extend(outs_of(part))
        else:
            waiting.extend(list(reversed(parts_by(grammar.body_of(number), spans[key][2]))))
    return told


class Mend:
    """A row that comes of another one at the least price, and all that shows it."""

    def __init__(self, grammar, row, prices):
        spans = cheapest_spans(grammar, row, prices)
        whole = (grammar.start, 0, len(row))
        self.least = cost_by(spans[whole][0])
        self.tree = trees_by(grammar, spans)[whole]
        self.all_deeds = deeds_along(grammar, row, spans, whole)
        self.all_costs = sorted([key + (cost_by(ground[0]),) for key, ground in spans.items()])

    def price(self):
        """Tell the least price."""
        return self.least

    def deeds(self):
        """Tell deeds of this price."""
        return list(self.all_deeds)

    def mended(self):
        """Tell the row that comes by them."""
        return self.tree.signs()

    def answer(self):
        """Tell a tree of the start with this row as its yield."""
        return self.tree

    def costs(self):
        """Tell the table of costs, rising."""
        return list(self.all_costs)


def mend(grammar, row, prices):
    """Tell the mend of a row."""
    need_start(grammar)
    need_small(grammar)
    need_prices(grammar, row, prices)
    return Mend(grammar, row, prices)
