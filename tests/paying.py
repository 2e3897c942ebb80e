"""The tests' own prices and tables of costs, by the document's words; nothing here asks the package."""

import heapq
import itertools

from tests.growing import row_of
from tests.looking import cuts_of, heads_of, is_own_tree, least_by_word, make_closed_triples, signs_of

FAR = 10 ** 9


def parts_of(row):
    return list(itertools.combinations_with_replacement(range(len(row) + 1), 2))


def prices_by(rules, row, chance, most=20):
    """Prices for all signs of the rules and of the row."""
    return {sign: (chance.randint(1, most), chance.randint(1, most)) for sign in sorted(set(signs_of(rules)) | set(row))}


def added_up(prices, deeds):
    """The price of deeds, one by one."""
    total = 0
    for word, sign in deeds:
        if word == "put":
            total += prices[sign][0]
        elif word == "out":
            total += prices[sign][1]
    return total


def own_price_of(rules, row, prices, deeds, tree):
    """The price of a list as deeds, or None, of a leaf or a node as the tree."""
    if not is_own_tree(rules, rules[0][0], tree):
        return None
    before, behind = [], []
    for word, sign in deeds:
        if word not in ("keep", "out", "put"):
            return None
        before += [sign] if word != "put" else []
        behind += [sign] if word != "out" else []
    return added_up(prices, deeds) if (before, behind) == (row, row_of(tree)) else None


def deeds_by(row, goal, chance):
    """Some deeds by which the goal comes of the row."""
    told, before, behind = [], list(row), list(goal)
    while before or behind:
        choices = ["out"] * bool(before) + ["put"] * bool(behind)
        if before and behind and before[0] == behind[0]:
            choices += ["keep"] * 4
        word = chance.choice(choices)
        told.append((word, before[0] if word != "put" else behind[0]))
        if word != "put":
            before.pop(0)
        if word != "out":
            behind.pop(0)
    return told


def least_price(prices, part, goal):
    """The least price of any deeds by which the goal comes of the part."""
    known = {(0, 0): 0}
    for i in range(len(part) + 1):
        for j in range(len(goal) + 1):
            ways = [known[i, j]] if (i, j) in known else []
            if i:
                ways.append(known[i - 1, j] + prices[part[i - 1]][1])
            if j:
                ways.append(known[i, j - 1] + prices[goal[j - 1]][0])
            if i and j and part[i - 1] == goal[j - 1]:
                ways.append(known[i - 1, j - 1])
            known[i, j] = min(ways)
    return known[len(part), len(goal)]


def needs_by(rules, row, prices, known):
    """Tuples (symbol, i, j, most) of all costs that a table must have, and how great they are at most, by the others."""
    for sign in signs_of(rules):
        for i, j in parts_of(row):
            yield sign, i, j, least_price(prices, row[i:j], [sign])
    for head, body in rules:
        if not body:
            for i, j in parts_of(row):
                yield head, i, j, sum(prices[sign][1] for sign in row[i:j])
        else:
            for places in cuts_of(len(row), len(body)):
                keys = list(zip(body, places, places[1:]))
                if all(key in known for key in keys):
                    yield head, places[0], places[-1], sum(known[key] for key in keys)


def own_costs(rules, row, prices):
    """The table of costs, rising: the least of all that the rules lead to, turn by turn."""
    known, before = {}, None
    while known != before:
        before = dict(known)
        for symbol, i, j, most in list(needs_by(rules, row, prices, before)):
            known[symbol, i, j] = min(most, known.get((symbol, i, j), FAR))
    return sorted(key + (cost,) for key, cost in known.items())


def own_is_below(rules, row, prices, costs):
    keys = [told[:3] for told in costs]
    if any(keys.count(key) > 1 for key in keys):
        return False
    if any(symbol not in heads_of(rules) + signs_of(rules) or (i, j) not in parts_of(row) for symbol, i, j in keys):
        return False
    known = {told[:3]: told[3] for told in costs}
    return all(known.get(told[:3], FAR) <= told[3] for told in needs_by(rules, row, prices, known))


def cheapest_words(rules, row, prices, longest):
    """For each head and part the least price at which one of its yields of at most so many signs comes of the part."""
    found = {}
    for head, words in least_by_word(rules, longest).items():
        for i, j in parts_of(row):
            told = [least_price(prices, row[i:j], word) for word in words]
            if told:
                found[head, i, j] = min(told)
    return found


def rows_by_price(rules, row, prices, most):
    """Rows that come of the row by deeds, one after the other, the cheapest first: tuples (price, row), at most so many.

    Only signs of the rules are put in: no other sign stands in a row that is let by.
    """
    waiting, done = [(0, tuple(row))], {}
    while waiting and len(done) < most:
        price, told = heapq.heappop(waiting)
        if told in done:
            continue
        done[told] = price
        yield price, list(told)
        for place, sign in enumerate(told):
            heapq.heappush(waiting, (price + prices[sign][1], told[:place] + told[place + 1:]))
        for place in range(len(told) + 1):
            for sign in signs_of(rules):
                heapq.heappush(waiting, (price + prices[sign][0], told[:place] + (sign,) + told[place:]))


def cheapest_let_by(rules, row, prices, most):
    """The least price at which a row that is let by comes of the row, None where so many rows have none among them."""
    for price, told in rows_by_price(rules, row, prices, most):
        if (rules[0][0], 0, len(told)) in make_closed_triples(rules, told):
            return price
    return None
