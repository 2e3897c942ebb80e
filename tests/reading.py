"""The tests' own readings, by the document's words, and grammars and rows to read.

A table is asked here for nothing but its entries and where heads lead.
"""

import itertools
import random

from rulestable.grammar import Grammar
from rulestable.grammartext import read_grammar
from rulestable.laying import Laid
from rulestable.states import States
from rulestable.tables import Table
from tests.doing import aheads_of, ranked_grammars, twin_grammars, with_ranks
from tests.growing import row_of, small_trees, written
from tests.looking import signs_of
from tests.texts import SUMS, TERMS, clean_grammars

# What stands ahead and behind tells whether A or B is meant; the tail is what both are made of.
TWINS = "S : a A d | b B d | a B e | b A e\nA : {0}\nB : {0}"
# No choice is open in the tables of these.
TEXTS = (TERMS, "S : C C\nC : c C | d", "S : ( S ) S | ~", TWINS.format("c"), TWINS.format("f c"), TWINS.format("g f c"),
         "left +\n" + SUMS, "right +\n" + SUMS, "none +\n" + SUMS, "S : b C | a C b | C\nC : c C | ~",
         "left +\nright *\nE : E + E | E * E | ( E ) | n", "none +\nleft *\nE : E + E | E * E | ( E ) | n",
         "none a\nA : B B\nB : a B | a", "left a\nA : B B\nB : a B | a", "left x\nright y\nS : x S | S y | ( S ) | a",
         "none x y\nS : x S | S y | ( S ) | a", "right e\nS : i S | i S e S | ( S ) | x",
         "left i e\nS : i S | i S e S | ( S ) | x", "none e i\nS : i S | i S e S | ( S ) | x")

# Never more than one thing may be done in the tables of these.
PLAIN_TEXTS = ("V : n | [ L ] | [ ]\nL : V | L , V", "S : a S b | ~", "S : a S a | b S b | c", "S : A S | b\nA : a | ( A )",
               "S : L = R | R\nL : * R | i\nR : L", "P : P S ; | ~\nS : i = E | ? E S\nE : n | i",
               "S : A a | B b\nA : ~\nB : ~", "S : a | ( L )\nL : L , S | S", "S : S + P | P\nP : - P | Q\nQ : Q ! | n",
               "S : A B C\nA : a A | ~\nB : b | ~\nC : c C | ~")


def table_of(text, *told):
    return Table(States(read_grammar(text)), *told)


def both_of(text):
    """The table of a grammar's text, kept apart, and laid together."""
    table = table_of(text)
    return table, Laid(table)


class OwnReading:
    """A reading by a table: of whatever tells entries and where heads lead."""

    def __init__(self, rules, table, row):
        self.rules, self.table = rules, table
        self.steps, self.piles, self.where, self.last, self.stopped = [], [[0]], None, None, False
        for place, sign in enumerate(list(row) + ["$"]):
            pile = list(self.piles[-1])
            if not self.takes(pile, sign, self.steps):
                self.where, self.stopped = place, self.last == ("stop",)
                break
            if place < len(row):
                self.piles.append(pile)

    def takes(self, pile, ahead, steps):
        """Do all that is done with this ahead; tell whether it is taken."""
        while True:
            entry = self.last = self.table.entry(pile[-1], ahead)
            if entry is None or entry == ("stop",):
                return False
            if entry == ("accept",):
                return True
            if entry[0] == "shift":
                pile.append(entry[1])
                steps.append(("shift", ahead))
                return True
            head, body = self.rules[entry[1]]
            del pile[len(pile) - len(body):]
            pile.append(self.table.to(pile[-1], head))
            steps.append(entry)

    def taken_from(self, pile):
        """What would be taken from a pile, rising."""
        return [ahead for ahead in aheads_of(self.rules) if self.takes(list(pile), ahead, [])]

    def expected(self):
        """What could stand where the row was refused."""
        return [] if self.where is None else self.taken_from(self.piles[-1])

    def tree(self):
        """The tree, put together step by step, as nested tuples; None of a refused row."""
        if self.where is not None:
            return None
        trees = []
        for word, told in self.steps:
            if word == "shift":
                trees.append(told)
            else:
                count = len(trees) - len(self.rules[told][1])
                trees = trees[:count] + [(told,) + tuple(trees[count:])]
        assert len(trees) == 1
        return trees[0]

    def all_told(self):
        """All that a reading tells, in the order of `told_by`."""
        return ("read" if self.where is None else "refused", self.steps, self.tree(), self.piles, self.where,
                self.expected())


def own_looked(old, new, signs, place, out, put):
    """The places looked at, by the stacks of readings afresh ahead of the change and behind it."""
    if old.where is not None and old.where < place:
        return place, place
    for there in range(place + len(put), len(signs) + 1):
        before = there - len(put) + out
        if there < len(new.piles) and before < len(old.piles) and new.piles[there] == old.piles[before]:
            return place, there
    return place, len(signs) + 1 if new.where is None else new.where + 1


def told_by(reading):
    """All that a reading of the package tells, its tree as nested tuples."""
    tree = reading.made()
    return (reading.word(), reading.steps(), None if tree is None else written(tree), reading.stacks(), reading.where(),
            reading.expected())


def rows_for(grammar, chance):
    """Rows that are let by, rows near to them, and all short ones."""
    signs = signs_of(grammar.rules) or ["a"]
    told = [row_of(tree) for tree in small_trees(grammar.rules, 9, 6)[grammar.start]]
    for row in list(told):
        for turn in range(4):
            place = chance.randint(0, len(row))
            put = [chance.choice(signs)] * chance.randint(0, 2)
            told.append(row[:place] + put + row[place + chance.randint(0, 2):])
    length = 4 if len(signs) < 4 else 2
    for size in range(length + 1):
        told += [list(row) for row in itertools.product(signs + ["zz"], repeat=size)]
    return [list(row) for row in dict.fromkeys(map(tuple, told))]


def grammars_with_ops(count, seed):
    """So many grammars with signs between, ahead of and behind trees of one head, most of them with a rank."""
    chance = random.Random(seed)
    told = []
    for turn in range(count):
        rules = [("E", ("n",))] + [("E", ("(", "E", ")"))] * (chance.random() < 0.6)
        signs = ["+", "*", "^", "!", "i"][:chance.randint(1, 4)]
        for sign in signs:
            form = chance.choice((("E", sign, "E"), ("E", sign, "E"), (sign, "E"), ("E", sign), ("i", "E", sign, "E")))
            rules.append(("E", form))
        told.append(with_ranks(Grammar(rules), chance))
    return told


def decided_tables(count, seed):
    """The tables without open choices of the texts and of some of so many grammars, with ranks and without."""
    grammars = [read_grammar(text) for text in TEXTS] + ranked_grammars(count, seed) + twin_grammars(count // 10, seed)
    grammars += grammars_with_ops(count // 10, seed)
    return [table for table in map(Table, map(States, grammars)) if not table.open_ones()]


def plain_tables(count, seed):
    """Tables without any conflict: of the texts' rules and of some of so many grammars."""
    grammars = [Grammar(list(read_grammar(text).rules)) for text in TEXTS + PLAIN_TEXTS] + clean_grammars(count, seed)
    return [table for table in map(Table, map(States, grammars)) if not table.conflicts()]
