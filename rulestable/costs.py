"""Prices: what deeds cost that mend a row, and whether a table of costs is below all that mending can cost."""

from rulestable.chart import MOST_IN_ROW
from rulestable.errors import NoPrice
from rulestable.grammar import is_pair
from rulestable.trees import is_tree
from rulestable.words import is_whole, need_row

MOST_PRICE = 20
DEED_WORDS = ("keep", "out", "put")


def is_price(thing):
    """Tell whether the thing is a tuple (put, out) of two prices."""
    return is_pair(thing) and all([is_whole(part) and 1 <= part <= MOST_PRICE for part in thing])


def need_prices(grammar, row, prices):
    """Refuse what is no row of at most ten signs, then what is no dict, then a sign without prices in it."""
    need_row(row, MOST_IN_ROW)
    if not isinstance(prices, dict):
        raise NoPrice(prices)
    for sign in sorted(grammar.signs() + row):
        if not is_price(prices.get(sign)):
            raise NoPrice(sign)


def price_to_put(prices, sign):
    """Tell what it costs to put a sign in."""
    return prices[sign][0]


def price_to_leave(prices, signs):
    """Tell what it costs to leave all these signs out."""
    return sum([prices[sign][1] for sign in signs])


def signs_by_words(deeds, words):
    """Tell the signs of the deeds that have one of these words."""
    return [deed[1] for deed in deeds if deed[0] in words]


def price_of(grammar, row, prices, deeds, tree):
    """Tell the price of deeds by which the yield of the tree comes of the row, None where it doesn't."""
    need_prices(grammar, row, prices)
    if any([deed[0] not in DEED_WORDS for deed in deeds]) or signs_by_words(deeds, ("keep", "out")) != row:
        return None
    if not is_tree(grammar, grammar.start, tree) or signs_by_words(deeds, ("keep", "put")) != tree.signs():
        return None
    put = [price_to_put(prices, sign) for sign in signs_by_words(deeds, ("put",))]
    return sum(put) + price_to_leave(prices, signs_by_words(deeds, ("out",)))


# Costs are kept in a dict: its keys are (symbol, i, j) of a symbol and a part of the row.


def sign_cost(row, prices, sign, i, j):
    """Tell the least price at which a sign comes of a part of the row."""
    part = row[i:j]
    if sign in part:
        return price_to_leave(prices, part) - price_to_leave(prices, [sign])
    return price_to_leave(prices, part) + price_to_put(prices, sign)


def sums_by(row, prices, body, begin, known):
    """Tell for each end of a part from begin on the least sum of costs by which a rule's body comes of it."""
    told = {begin: 0}
    if len(body) == 0:
        for end in range(begin, len(row) + 1):
            told[end] = price_to_leave(prices, row[begin:end])
    for symbol in body:
        further = {}
        for place, ahead in told.items():
            for end in range(place, len(row) + 1):
                if (symbol, place, end) in known:
                    total = ahead + known[(symbol, place, end)]
                    further[end] = min(total, further.get(end, total))
        told = further
    return told


def parts_of(row):
    """Tell the tuples (i, j) of all parts of a row."""
    told = []
    for i in range(len(row) + 1):
        told.extend([(i, j) for j in range(i, len(row) + 1)])
    return told


def needs_of_signs(grammar, row, prices):
    """Tell for each sign and each part what its cost is at most in a table that is below."""
    told = []
    for sign in grammar.signs():
        told.extend([((sign, i, j), sign_cost(row, prices, sign, i, j)) for i, j in parts_of(row)])
    return told


def needs_of_heads(grammar, row, prices, known):
    """Tell for each rule and each part what its head's cost is at most in a table that is below, by its other costs."""
    told = []
    for head, body in grammar.rules:
        for begin in range(len(row) + 1):
            sums = sums_by(row, prices, body, begin, known)
            told.extend([((head, begin, end), sums[end]) for end in sums])
    return told


def is_below(grammar, row, prices, costs):
    """Tell whether a table of costs tells nowhere more than mending costs."""
    need_prices(grammar, row, prices)
    known = {}
    for told in costs:
        known[told[:3]] = told[3]
    symbols = grammar.heads() + grammar.signs()
    parts = parts_of(row)
    if len(known) < len(costs) or any([key[0] not in symbols or key[1:] not in parts for key in known]):
        return False
    needs = needs_of_signs(grammar, row, prices) + needs_of_heads(grammar, row, prices, known)
    return all([key in known and known[key] <= most for key, most in needs])
