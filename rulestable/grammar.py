"""Grammars: rules in an order, and the ranks of signs."""

from rulestable.errors import Doubled, NoHead, NoPlace, NoRanks, NoRule, NoSymbol, TooMany
from rulestable.words import is_head, is_sign, is_symbol, is_whole

MOST_RULES = 20
MOST_HEADS = 8
MOST_SIGNS = 10
MOST_RANKS = 6
MOST_IN_BODY = 4
MOST_IN_RANK = 10
SIDES = ("left", "right", "none")


def is_pair(thing):
    """Tell whether the thing is a tuple of two."""
    return isinstance(thing, tuple) and len(thing) == 2


def is_body(thing):
    """Tell whether the thing is a tuple of none to four symbols."""
    return isinstance(thing, tuple) and len(thing) <= MOST_IN_BODY and all([is_symbol(part) for part in thing])


def is_rule(thing):
    """Tell whether the thing is a tuple (head, body)."""
    return is_pair(thing) and is_head(thing[0]) and is_body(thing[1])


def is_side(thing):
    """Tell whether the thing is a side of a rank."""
    return isinstance(thing, str) and thing in SIDES


def is_rank_signs(thing):
    """Tell whether the thing is a tuple of one to ten signs."""
    return isinstance(thing, tuple) and 1 <= len(thing) <= MOST_IN_RANK and all([is_sign(part) for part in thing])


def is_rank(thing):
    """Tell whether the thing is a tuple (side, signs), perhaps with a sign twice."""
    return is_pair(thing) and is_side(thing[0]) and is_rank_signs(thing[1])


def heads_in(rules):
    """Tell the heads of the rules, rising, each once."""
    return sorted(set([rule[0] for rule in rules]))


def signs_in(rules):
    """Tell the signs in the bodies of the rules, rising, each once."""
    found = {}
    for rule in rules:
        for symbol in rule[1]:
            if is_sign(symbol):
                found[symbol] = True
    return sorted(found)


def need_rules(rules):
    """Refuse what is no list of one to twenty unlike rules."""
    if not isinstance(rules, list):
        raise NoRule(rules)
    if not 1 <= len(rules) <= MOST_RULES:
        raise TooMany(len(rules))
    ahead = {}
    for number, rule in enumerate(rules):
        if not is_rule(rule):
            raise NoRule(rule)
        if rule in ahead:
            raise Doubled(number)
        ahead[rule] = True


def need_known_heads(rules):
    """Refuse rules with a head in a body that no rule has."""
    known = heads_in(rules)
    for rule in rules:
        for symbol in rule[1]:
            if is_head(symbol) and symbol not in known:
                raise NoHead(symbol)


def need_few_symbols(rules):
    """Refuse rules with too many heads, then those with too many signs."""
    heads = heads_in(rules)
    if len(heads) > MOST_HEADS:
        raise TooMany(len(heads))
    signs = signs_in(rules)
    if len(signs) > MOST_SIGNS:
        raise TooMany(len(signs))


def need_ranks(ranks):
    """Refuse what is no list or tuple of at most six ranks, no sign twice in them."""
    if not isinstance(ranks, (list, tuple)):
        raise NoRanks(ranks)
    if len(ranks) > MOST_RANKS:
        raise TooMany(len(ranks))
    ahead = {}
    for rank in ranks:
        if not is_rank(rank):
            raise NoRanks(rank)
        for sign in rank[1]:
            if sign in ahead:
                raise NoRanks(rank)
            ahead[sign] = True


class Grammar:
    """Rules, numbered from 0, and ranks, the weakest first; it never changes."""

    def __init__(self, rules, ranks=None):
        need_rules(rules)
        need_known_heads(rules)
        need_few_symbols(rules)
        told = () if ranks is None else ranks
        need_ranks(told)
        self.rules = tuple(rules)
        self.ranks = tuple(told)
        self.start = self.rules[0][0]

    def heads(self):
        """Tell the heads, rising."""
        return heads_in(self.rules)

    def signs(self):
        """Tell the signs that stand in bodies, rising."""
        return signs_in(self.rules)

    def numbers_of(self, head):
        """Tell the numbers of the rules of a head, rising."""
        # A thing of another kind may call itself equal to a head, so its kind is looked at first.
        if not is_head(head) or head not in self.heads():
            raise NoSymbol(head)
        return [number for number, rule in enumerate(self.rules) if rule[0] == head]

    def need_number(self, number):
        """Refuse what is no number of a rule."""
        if not is_whole(number) or not 0 <= number < len(self.rules):
            raise NoRule(number)

    def head_of(self, number):
        """Tell the head of a rule."""
        self.need_number(number)
        return self.rules[number][0]

    def body_of(self, number):
        """Tell the body of a rule, a tuple."""
        self.need_number(number)
        return self.rules[number][1]

    def rank_of(self, sign):
        """Tell the place of the rank in which a sign stands, or None."""
        if not is_sign(sign):
            return None
        for place, rank in enumerate(self.ranks):
            if sign in rank[1]:
                return place
        return None

    def rank_by(self, number):
        """Tell the rank of the last sign in a rule's body that has one, or None."""
        self.need_number(number)
        for symbol in reversed(self.rules[number][1]):
            place = self.rank_of(symbol)
            if place is not None:
                return place
        return None

    def side_at(self, place):
        """Tell the side of the rank at a place."""
        if not is_whole(place) or not 0 <= place < len(self.ranks):
            raise NoPlace(place)
        return self.ranks[place][0]
