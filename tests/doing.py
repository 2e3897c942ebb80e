"""The tests' own tables, papers for conflicts and partings, by the document's words.

Nothing here asks the package what it should tell, and grammars are asked for their rules and ranks alone.
"""

import itertools
import random

from rulestable.grammar import Grammar
from rulestable.trees import Leaf, Node
from tests.growing import behind_path, leaves_with_paths, nodes_with_paths, row_of
from tests.looking import OwnItems, heads_of, is_own_tree, own_cut, signs_of
from tests.texts import clean_grammars


def aheads_of(rules):
    return sorted(signs_of(rules) + ["$"])


# Tables [71] to [74].

def own_rank(ranks, sign):
    for place, (side, signs) in enumerate(ranks):
        if sign in signs:
            return place
    return None


def own_rule_rank(rules, ranks, number):
    told = [own_rank(ranks, symbol) for symbol in rules[number][1]]
    return ([None] + [rank for rank in told if rank is not None])[-1]


def own_word(rules, ranks, ahead, entries):
    """What ranks decide: shift, reduce, stop, or None."""
    if sorted(entry[0] for entry in entries) != ["reduce", "shift"]:
        return None
    number = [entry[1] for entry in entries if entry[0] == "reduce"][0]
    of_sign, of_rule = own_rank(ranks, ahead), own_rule_rank(rules, ranks, number)
    if of_sign is None or of_rule is None:
        return None
    if of_sign > of_rule:
        return "shift"
    if of_sign < of_rule:
        return "reduce"
    return {"left": "reduce", "right": "shift", "none": "stop"}[ranks[of_sign][0]]


class OwnTable:
    """A table by a going over the items of the states, each entry asked for by itself."""

    def __init__(self, grammar, ranked=True):
        self.rules, self.ranks = grammar.rules, grammar.ranks if ranked else ()
        self.states, self.leads = OwnItems(grammar.rules).states()
        self.conflicts, self.decided, self.open_ones = [], [], []
        for state in range(len(self.states)):
            for ahead in aheads_of(self.rules):
                entries = self.may_be_done(state, ahead)
                if len(entries) > 1:
                    self.add(state, ahead, entries)
        self.words = {told[:2]: told[3] for told in self.decided}

    def add(self, state, ahead, entries):
        self.conflicts.append((state, ahead, entries))
        word = own_word(self.rules, self.ranks, ahead, entries)
        if word is None:
            self.open_ones.append((state, ahead))
        else:
            self.decided.append((state, ahead, [entry[1] for entry in entries if entry[0] == "reduce"][0], word))

    def may_be_done(self, state, ahead):
        items = self.states[state]
        told = []
        for number, (head, body) in enumerate(self.rules):
            if (number, len(body), ahead) in items:
                told.append(("reduce", number))
        if any(number >= 0 and self.rules[number][1][dot:dot + 1] == (ahead,) for number, dot, behind in items):
            told.append(("shift", self.leads[state, ahead]))
        if ahead == "$" and (-1, 1, "$") in items:
            told.append(("accept",))
        return tuple(sorted(told))

    def entry(self, state, ahead):
        entries = self.may_be_done(state, ahead)
        if len(entries) < 2:
            return entries[0] if entries else None
        if (state, ahead) in self.open_ones:
            return ("open",)
        word = self.words[state, ahead]
        return ("stop",) if word == "stop" else [entry for entry in entries if entry[0] == word][0]

    def to(self, state, symbol):
        return self.leads.get((state, symbol))


# Papers for conflicts [75], [76].

def is_plain(thing, kind):
    return type(thing) is kind


def is_own_entry(thing):
    if not is_plain(thing, tuple) or not thing or not is_plain(thing[0], str):
        return False
    if thing[0] == "accept":
        return len(thing) == 1
    return len(thing) == 2 and thing[0] in ("reduce", "shift") and is_plain(thing[1], int)


def leaves_left_of(tree, path, dot):
    """The signs of all leaves to the left of the place ahead of the child dot of the node at the path."""
    end = tuple(path) + (dot,)
    return [sign for place, sign in leaves_with_paths(tree) if place < end]


def is_own_ground(rules, ahead, entry, way, row, ground):
    if not is_plain(ground, tuple) or len(ground) != 3:
        return False
    tree, path, dot = ground
    start = rules[0][0]
    if type(tree) not in (Leaf, Node) or not is_own_tree(rules, start, tree):
        return False
    if entry[0] == "accept":
        return ahead == "$" and path is None and dot is None and way == [start] and row == row_of(tree)
    if not is_plain(path, list) or not all(is_plain(place, int) for place in path) or not is_plain(dot, int):
        return False
    nodes = dict(nodes_with_paths(tree))
    if tuple(path) not in nodes or not 0 <= dot <= len(nodes[tuple(path)].children):
        return False
    if own_cut(rules, tree, path, dot) != way or leaves_left_of(tree, path, dot) != row:
        return False
    node = nodes[tuple(path)]
    if entry[0] == "reduce":
        return node.number == entry[1] and dot == len(node.children) and behind_path(tree, path) == ahead
    return dot < len(node.children) and type(node.children[dot]) is Leaf and node.children[dot].sign == ahead


def is_own_conflict(rules, ahead, entries, paper):
    """Whether the paper is one for what is ahead and the entries, of any things that are plain Python's or trees."""
    if not is_plain(ahead, str) or not is_plain(entries, tuple) or not is_plain(paper, tuple) or len(paper) != 3:
        return False
    if len(entries) < 2 or not all(map(is_own_entry, entries)) or len(set(entries)) < len(entries):
        return False
    if [entry[0] for entry in entries].count("shift") > 1:
        return False
    way, row, grounds = paper
    for told in (way, row):
        if not is_plain(told, list) or not all(is_plain(symbol, str) for symbol in told):
            return False
    if not is_plain(grounds, tuple) or len(grounds) != len(entries):
        return False
    return all(is_own_ground(rules, ahead, entry, way, row, ground) for entry, ground in zip(entries, grounds))


# Tables laid together [81] to [83].

def own_agree(one, other):
    return one is None or other is None or one == other or (one[0], other[0]) == ("shift", "shift")


def own_core(items):
    return {item[:2] for item in items}


def own_kept_apart(table):
    """Of an own table all tuples (state, other, ahead)."""
    told = []
    for one, other in itertools.combinations(range(len(table.states)), 2):
        if own_core(table.states[one]) == own_core(table.states[other]):
            told += [(one, other, ahead) for ahead in aheads_of(table.rules)
                     if not own_agree(table.entry(one, ahead), table.entry(other, ahead))]
    return told


def own_groups(table):
    """The groups and how many turns parted one: by pairs of states, those that are not together being found."""
    count = len(table.states)
    cores = [own_core(items) for items in table.states]
    quarrels = [cores[one] for one, other, ahead in own_kept_apart(table)]
    apart = {(one, other) for one in range(count) for other in range(count)
             if one != other and (cores[one] != cores[other] or cores[one] in quarrels)}
    turns = 0
    while True:
        more = {(one, other) for one in range(count) for other in range(count) if (one, other) not in apart
                and any(are_led_apart(table, apart, one, other, symbol)
                        for symbol in heads_of(table.rules) + signs_of(table.rules))}
        if not more:
            break
        apart |= more
        turns += 1
    groups = []
    for state in range(count):
        if not any(state in group for group in groups):
            groups.append([other for other in range(count) if (state, other) not in apart])
    return groups, turns


def are_led_apart(table, apart, one, other, symbol):
    goals = (table.to(one, symbol), table.to(other, symbol))
    if None in goals:
        return goals != (None, None)
    return goals in apart


# Grammars.

def with_ranks(grammar, chance):
    """The same rules, and ranks of some of their signs, perhaps of all or none, and of a sign that no rule has."""
    signs = [sign for sign in signs_of(grammar.rules) + ["zz"] if chance.random() < 0.8]
    chance.shuffle(signs)
    ranks = []
    while signs:
        count = chance.randint(1, len(signs))
        ranks.append((chance.choice(("left", "right", "none")), tuple(signs[:count])))
        signs = signs[count:]
    return Grammar(list(grammar.rules), ranks)


def ranked_grammars(count, seed):
    """Those of so many grammars that are clean and not vast, most of them with ranks."""
    chance = random.Random(seed)
    return [with_ranks(grammar, chance) for grammar in clean_grammars(count, seed)]


def twin_grammars(count, seed):
    """So many grammars in which heads have like bodies, and what stands ahead of them and behind tells which is meant.

    They have no conflict or few, and states of one core, of which some don't agree.
    """
    chance = random.Random(seed)
    told = []
    for turn in range(count):
        heads = ["A", "B", "C1"][:chance.randint(2, 3)]
        rules = []
        for begin in "xyz"[:chance.randint(2, 3)]:
            ends = chance.sample("def", 3)
            rules += [("S", (begin, head, end)) for head, end in zip(heads, ends)]
        tail = ("c",) * chance.randint(0, 3)
        for head in heads:
            rules.append((head, tail if chance.random() < 0.9 else tail + ("h",)))
            if chance.random() < 0.3:
                rules.append((head, ("k", head)))
        if chance.random() < 0.3:
            rules.append(("S", ("h", "S")))
        told.append(Grammar(rules))
    return told
