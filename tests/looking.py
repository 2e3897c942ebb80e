"""The tests' own lookings through sets, lists and rows, by the document's words; nothing here asks the package."""

import itertools

from tests.growing import behind_path, is_great, nodes_with_paths

FAR = 10 ** 9


def heads_of(rules):
    return sorted({head for head, body in rules})


def signs_of(rules):
    return sorted({symbol for head, body in rules for symbol in body if not is_great(symbol)})


# Sets that are shut [48].

def shut_barren(rules, heads):
    return set(heads) <= set(heads_of(rules)) and all(set(body) & set(heads) for head, body in rules if head in heads)


def shut_empty(rules, heads):
    return set(heads) <= set(heads_of(rules)) and {head for head, body in rules if set(body) <= set(heads)} <= set(heads)


def shut_numbers(rules, numbers):
    if not set(numbers) <= set(heads_of(rules)):
        return False
    for head, body in rules:
        inside = [symbol for symbol in body if is_great(symbol)]
        if all(symbol in numbers for symbol in inside):
            most = 1 + len(body) - len(inside) + sum(numbers[symbol] for symbol in inside)
            if not (head in numbers and numbers[head] <= most):
                return False
    return True


def first_needs(rules, barren, empty, starts):
    """Tuples (head, symbol): all that the symbol has is needed in the list of the head."""
    for head, body in rules:
        if not set(body) & set(barren):
            for place, symbol in enumerate(body):
                if all(other in empty for other in body[:place]):
                    yield head, symbol


def shut_firsts(rules, barren, empty, starts):
    if not (shut_barren(rules, barren) and shut_empty(rules, empty)):
        return False
    if not all(head in starts for head in heads_of(rules)):
        return False
    if not all(sign in starts and sign in starts[sign] for sign in signs_of(rules)):
        return False
    needs = first_needs(rules, barren, empty, starts)
    return all(set(starts[symbol]) <= set(starts[head]) for head, symbol in needs)


def follow_needs(rules, barren, empty, starts, ends):
    """Tuples (head, needed): these signs and end marks are needed in the list of the head, perhaps none."""
    for head, body in rules:
        if head in ends and not set(body) & set(barren):
            for place, symbol in enumerate(body):
                if is_great(symbol):
                    yield symbol, []
                    for behind in range(place + 1, len(body)):
                        if all(other in empty for other in body[place + 1:behind]):
                            yield symbol, list(starts[body[behind]])
                    if all(other in empty for other in body[place + 1:]):
                        yield symbol, list(ends[head])


def shut_follows(rules, barren, empty, starts, ends):
    if not shut_firsts(rules, barren, empty, starts) or not set(ends) <= set(heads_of(rules)):
        return False
    start = rules[0][0]
    if start not in barren and not (start in ends and "$" in ends[start]):
        return False
    needs = follow_needs(rules, barren, empty, starts, ends)
    return all(head in ends and set(needed) <= set(ends[head]) for head, needed in needs)


def make_shut_empty(rules, heads):
    """These heads and no more than must come to them."""
    heads = set(heads)
    while not shut_empty(rules, heads):
        heads |= {head for head, body in rules if set(body) <= heads}
    return sorted(heads)


def make_shut_firsts(rules, barren, empty, starts):
    """These lists and no more than must come to them."""
    starts = {symbol: set(starts.get(symbol, ())) for symbol in heads_of(rules) + signs_of(rules)}
    for sign in signs_of(rules):
        starts[sign].add(sign)
    while not shut_firsts(rules, barren, empty, starts):
        for head, symbol in first_needs(rules, barren, empty, starts):
            starts[head] |= starts[symbol]
    return {symbol: sorted(starts[symbol]) for symbol in starts}


def make_shut_follows(rules, barren, empty, starts, ends):
    """These lists and no more than must come to them."""
    ends = {head: set(ends[head]) for head in ends}
    if rules[0][0] not in barren:
        ends.setdefault(rules[0][0], set()).add("$")
    while not shut_follows(rules, barren, empty, starts, ends):
        for head, needed in list(follow_needs(rules, barren, empty, starts, ends)):
            ends.setdefault(head, set()).update(needed)
    return {head: sorted(ends[head]) for head in ends}


# Rows and what is built up over them [51] to [57].

def least_by_word(rules, longest):
    """For each head a dict from all yields of at most so many signs, as tuples, to the size of a smallest tree."""
    found = {head: {} for head, body in rules}
    changed = True
    while changed:
        changed = False
        for head, body in rules:
            ahead = {(): 1}
            for symbol in body:
                own = dict(found[symbol]) if is_great(symbol) else {(symbol,): 1}
                further = {}
                for word, size in ahead.items():
                    for more, added in own.items():
                        if len(word) + len(more) <= longest:
                            further[word + more] = min(size + added, further.get(word + more, FAR))
                ahead = further
            for word, size in ahead.items():
                if size < found[head].get(word, FAR):
                    found[head][word] = size
                    changed = True
    return found


def beginnings(rules, longest):
    """For each head how its yields begin, as tuples of at most so many signs; of grammars without barren heads."""
    found = {head: set() for head, body in rules}
    before = None
    while before != found:
        before = {head: set(words) for head, words in found.items()}
        for head, body in rules:
            ahead = {()}
            for symbol in body:
                own = before[symbol] if is_great(symbol) else {(symbol,)}
                ahead = {(word + more)[:longest] for word in ahead for more in own}
            found[head] |= ahead
    return found


def cuts_of(length, parts):
    """All tuples of places at which so many parts, one behind the other, begin, and the last one ends."""
    return itertools.combinations_with_replacement(range(length + 1), parts + 1)


def symbol_goes(row, triples, symbol, begin, end):
    if is_great(symbol):
        return (symbol, begin, end) in triples
    return end == begin + 1 and row[begin] == symbol


def needed_triples(rules, row, triples):
    """All triples to which a rule leads from these and the row's signs."""
    for head, body in rules:
        for places in cuts_of(len(row), len(body)):
            if all(symbol_goes(row, triples, *part) for part in zip(body, places, places[1:])):
                yield head, places[0], places[-1]


def closed_triples(rules, row, triples):
    return set(needed_triples(rules, row, set(triples))) <= set(triples)


def make_closed_triples(rules, row, triples=()):
    """These triples and no more than must come to them."""
    triples = set(triples)
    while True:
        before = len(triples)
        triples |= set(needed_triples(rules, row, set(triples)))
        if len(triples) == before:
            return triples


def tree_counts(rules, row):
    """For each span of a head how many trees it has: 1, or 2 for two and more."""
    ways = [(head, list(zip(body, places, places[1:])), (head, places[0], places[-1]))
            for head, body in rules for places in cuts_of(len(row), len(body))]
    counts, before = {}, None
    while counts != before:
        # Those of trees that are one deeper, turn by turn, so that no tree is counted twice.
        before, counts = counts, {}
        for head, parts, key in ways:
            count = 1
            for symbol, begin, end in parts:
                if is_great(symbol):
                    count *= before.get((symbol, begin, end), 0)
                else:
                    count *= end == begin + 1 and row[begin] == symbol
            if count:
                counts[key] = min(2, counts.get(key, 0) + count)
    return counts


# Items and states [61] to [67].

def item_body(rules, number):
    return (rules[0][0],) if number == -1 else rules[number][1]


def own_items(rules):
    """All items of a grammar."""
    told = [(-1, 0, "$"), (-1, 1, "$")]
    for number, (head, body) in enumerate(rules):
        told += [(number, dot, ahead) for dot in range(len(body) + 1) for ahead in signs_of(rules) + ["$"]]
    return told


class OwnItems:
    """The closing and leading of items of a clean grammar, by the plain words of the document."""

    def __init__(self, rules):
        self.rules = rules
        self.empty = make_shut_empty(rules, [])
        self.starts = make_shut_firsts(rules, [], self.empty, {})

    def behind(self, item):
        body = item_body(self.rules, item[0])
        return body[item[1]] if item[1] < len(body) else None

    def aheads(self, rest, ahead):
        told = set()
        for place, symbol in enumerate(rest):
            if all(other in self.empty for other in rest[:place]):
                told |= set(self.starts[symbol])
        return told | ({ahead} if all(symbol in self.empty for symbol in rest) else set())

    def opened(self, item):
        number, dot, ahead = item
        symbol = self.behind(item)
        if symbol is None or not is_great(symbol):
            return set()
        rest = item_body(self.rules, number)[dot + 1:]
        numbers = [other for other, rule in enumerate(self.rules) if rule[0] == symbol]
        return {(other, 0, sign) for other in numbers for sign in self.aheads(rest, ahead)}

    def closed(self, items):
        found = set(items)
        while True:
            more = {other for item in found for other in self.opened(item)}
            if more <= found:
                return sorted(found)
            found |= more

    def led(self, items, symbol):
        return self.closed([(item[0], item[1] + 1, item[2]) for item in items if self.behind(item) == symbol])

    def states(self):
        """All states, and a dict from (state, symbol) to the state to which it leads."""
        told, leads, state = [self.closed([(-1, 0, "$")])], {}, 0
        while state < len(told):
            for symbol in sorted({self.behind(item) for item in told[state]} - {None}):
                items = self.led(told[state], symbol)
                if items not in told:
                    told.append(items)
                leads[state, symbol] = told.index(items)
            state += 1
        return told, leads


def symbol_of(rules, tree):
    return rules[tree.number][0] if hasattr(tree, "children") else tree.sign


def own_cut(rules, tree, path, dot):
    told = []
    for place in list(path) + [dot]:
        told += [symbol_of(rules, child) for child in tree.children[:place]]
        tree = tree.children[place] if place < len(tree.children) else None
    return told


def is_own_tree(rules, symbol, tree):
    if not hasattr(tree, "children"):
        return not is_great(symbol) and tree.sign == symbol
    if not 0 <= tree.number < len(rules) or rules[tree.number][0] != symbol:
        return False
    body = rules[tree.number][1]
    return len(body) == len(tree.children) and all(map(is_own_tree, [rules] * len(body), body, tree.children))


def is_own_paper(rules, way, item, tree, path):
    """Whether tree and path are a paper for an item, which must be one, and the way."""
    number, dot, ahead = item
    if not is_own_tree(rules, rules[0][0], tree):
        return False
    if number == -1 or path is None:
        return number == -1 and path is None and way == ([rules[0][0]] if dot == 1 else [])
    nodes = dict(nodes_with_paths(tree))
    if tuple(path) not in nodes or nodes[tuple(path)].number != number:
        return False
    return own_cut(rules, tree, path, dot) == way and behind_path(tree, path) == ahead
