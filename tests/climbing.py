"""Operator grammars, and the tests' own ways to look at them: nothing here asks the package what it should tell."""

import itertools
import random

from rulestable.grammar import Grammar
from rulestable.trees import Leaf, Node
from tests.doing import own_rank
from tests.growing import is_great
from tests.looking import signs_of

SIDES = ("left", "right", "none")


def form_of(body):
    """Of which kind a rule with this body is: op, pair, atom, or None."""
    return {"EsE": "op", "sEs": "pair", "s": "atom"}.get("".join("E" if is_great(symbol) else "s"
                                                                             for symbol in body))


def are_own_operators(rules, ranks):
    """Whether these rules and ranks are an operator grammar, word by word of [101]."""
    if len({head for head, body in rules}) != 1 or any(form_of(body) is None for head, body in rules):
        return False
    if not any(form_of(body) == "atom" for head, body in rules):
        return False
    places = [symbol for head, body in rules for symbol in body if not is_great(symbol)]
    if any(places.count(sign) > 1 for sign in places):
        return False
    ops = [body[1] for head, body in rules if form_of(body) == "op"]
    return all((own_rank(ranks, sign) is not None) == (sign in ops) for sign in places)


def own_keeps(rules, ranks, tree):
    """Whether a tree as nested tuples keeps the ranks."""
    if isinstance(tree, str):
        return True
    if form_of(rules[tree[0]][1]) == "op":
        rank = own_rank(ranks, tree[2])
        for child, side in ((tree[1], "left"), (tree[3], "right")):
            if form_of(rules[child[0]][1]) == "op":
                other = own_rank(ranks, child[2])
                if not (other > rank or (other == rank and ranks[rank][0] == side)):
                    return False
    return all(own_keeps(rules, ranks, child) for child in tree[1:])


def own_trees(rules, row):
    """All trees of a row, as nested tuples, of rules whose heads are never empty and never alone in a body."""
    known = {}

    def of_symbol(symbol, begin, end):
        if not is_great(symbol):
            return [symbol] if end == begin + 1 and row[begin] == symbol else []
        if (begin, end) not in known:
            known[begin, end] = [tree for number in range(len(rules)) for tree in of_rule(number, begin, end)]
        return known[begin, end]

    def of_rule(number, begin, end):
        told = []
        body = rules[number][1]
        for places in itertools.combinations(range(begin + 1, end), len(body) - 1):
            cuts = (begin,) + places + (end,)
            children = [of_symbol(*part) for part in zip(body, cuts, cuts[1:])]
            told += [(number,) + chosen for chosen in itertools.product(*children)]
        return told

    return of_symbol(rules[0][0], 0, len(row)) if row else []


def grown_by(told):
    """The tree of nested tuples."""
    return Leaf(told) if isinstance(told, str) else Node(told[0], [grown_by(child) for child in told[1:]])


def operators_by(chance):
    """An operator grammar: rules in any order, ranks of all sides, perhaps signs in them that no rule has."""
    head = chance.choice(("E", "S", "Expr"))
    signs = ["+", "-", "*", "^", "(", ")", "[", "]", "n", "m"]
    chance.shuffle(signs)
    rules = [(head, (signs.pop(),)) for turn in range(chance.choice((1, 1, 2)))]
    rules += [(head, (signs.pop(), head, signs.pop())) for turn in range(chance.choice((0, 1, 1, 2)))]
    ops = [signs.pop() for turn in range(chance.randint(0, min(4, len(signs))))]
    rules += [(head, (head, op, head)) for op in ops]
    chance.shuffle(rules)
    ranked = ops + ["zz", "0"][:chance.randint(0, 2)]
    chance.shuffle(ranked)
    ranks = []
    while ranked:
        count = chance.randint(1, len(ranked))
        ranks.append((chance.choice(SIDES), tuple(ranked[:count])))
        ranked = ranked[count:]
    return Grammar(rules, ranks)


def operator_grammars(count, seed):
    """So many operator grammars, always the same ones."""
    chance = random.Random(seed)
    return [operators_by(chance) for turn in range(count)]


def row_by(grammar, chance, most):
    """A row that is let by, of at most so many signs, an odd number."""
    by_form = {"op": [], "pair": [], "atom": []}
    for head, body in grammar.rules:
        by_form[form_of(body)].append(body)
    row = [grammar.start]
    while grammar.start in row:
        place = chance.choice([place for place, symbol in enumerate(row) if symbol == grammar.start])
        forms = ["atom"] + ["op", "op", "pair"] * (len(row) + 2 <= most)
        bodies = by_form[chance.choice([form for form in forms if by_form[form]])]
        row[place:place + 1] = chance.choice(bodies)
    return row


def near_rows(grammar, chance, most):
    """A row that is let by, and some near to it, of at most so many signs."""
    row = row_by(grammar, chance, most)
    told = [row]
    for turn in range(3):
        place = chance.randint(0, len(row))
        put = [chance.choice(signs_of(grammar.rules) + ["zz"]) for count in range(chance.randint(0, 2))]
        told.append((row[:place] + put + row[place + chance.randint(0, 2):])[:most])
    return told
