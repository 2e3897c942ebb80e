"""[84]: by a laid table the same rows are read as by the table of which it was made, with the same trees.

Rows are read by the test's own reading here, which asks the tables for nothing but entries and where heads lead.
"""

import itertools
import random
import unittest

from rulestable.grammar import Grammar
from rulestable.grammartext import read_grammar
from rulestable.laying import Laid
from rulestable.states import States
from rulestable.tables import Table
from rulestable.trees import steps_of
from tests.doing import OwnReading, ranked_grammars, twin_grammars
from tests.growing import row_of, small_trees
from tests.looking import heads_of, least_by_word, signs_of
from tests.texts import SUMS, TERMS, clean_grammars

TWINS = "S : a A d | b B d | a B e | b A e\nA : {0}\nB : {0}"
TEXTS = (TERMS, "S : C C\nC : c C | d", "S : ( S ) S | ~", TWINS.format("c"), TWINS.format("f c"), TWINS.format("g f c"),
         "left +\n" + SUMS, "right +\n" + SUMS, "none +\n" + SUMS, "S : b C | a C b | C\nC : c C | ~",
         "left +\nright *\nE : E + E | E * E | ( E ) | n", "none +\nleft *\nE : E + E | E * E | ( E ) | n",
         "none a\nA : B B\nB : a B | a", "left a\nA : B B\nB : a B | a", "left x\nright y\nS : x S | S y | ( S ) | a",
         "none x y\nS : x S | S y | ( S ) | a", "right e\nS : i S | i S e S | ( S ) | x",
         "left i e\nS : i S | i S e S | ( S ) | x", "none e i\nS : i S | i S e S | ( S ) | x")


def rows_for(grammar, chance):
    """Rows that are let by, rows near to them, and all short ones."""
    signs = signs_of(grammar.rules) or ["a"]
    told = [row_of(tree) for tree in small_trees(grammar.rules, 9, 6)[grammar.start]]
    for row in list(told):
        for turn in range(4):
            place = chance.randint(0, len(row))
            put = [chance.choice(signs)] * chance.randint(0, 2)
            told.append(row[:place] + put + row[place + chance.randint(0, 2):])
    length = 4 if len(signs) < 4 else 2
    for size in range(length + 1):
        told += [list(row) for row in itertools.product(signs + ["zz"], repeat=size)]
    return [list(row) for row in dict.fromkeys(map(tuple, told))]


def decided_grammars():
    """Many grammars whose tables have no open choice."""
    found = [read_grammar(text) for text in TEXTS] + ranked_grammars(400, seed=84) + twin_grammars(40, seed=85)
    return [grammar for grammar in found if not Table(States(grammar)).open_ones()]


class TestLaid(unittest.TestCase):

    def same(self, grammar, table, laid, row):
        one, other = OwnReading(grammar.rules, table, row), OwnReading(grammar.rules, laid, row)
        self.assertEqual(other.where, one.where)
        self.assertEqual(len(other.piles), len(one.piles))
        groups = laid.groups()
        for pile, states in zip(other.piles, one.piles):
            self.assertEqual(len(pile), len(states))
            self.assertTrue(all(state in groups[group] for group, state in zip(pile, states)))
        shifts = [[step for step in reading.steps if step[0] == "shift"] for reading in (one, other)]
        self.assertEqual(shifts[1], shifts[0])
        if one.where is None:
            self.assertEqual(other.steps, one.steps)
        else:
            self.assertEqual(other.steps[:len(one.steps)], one.steps)
            self.assertEqual(other.expected(), one.expected())
        return one.where is None, other.steps != one.steps

    def test_rows(self):
        chance = random.Random(86)
        read, refused, farther, fewer = 0, 0, 0, 0
        for grammar in decided_grammars():
            table = Table(States(grammar))
            laid = Laid(table)
            fewer += laid.many() < table.many()
            for row in rows_for(grammar, chance):
                was_read, went_farther = self.same(grammar, table, laid, row)
                read, refused, farther = read + was_read, refused + (not was_read), farther + went_farther
        self.assertGreater(read, 500)
        self.assertGreater(refused, 10000)
        self.assertGreater(farther, 50)
        self.assertGreater(fewer, 40)


class TestEntries(unittest.TestCase):
    """What the entries of tables lead to: a table that is right reads the rows that are let by."""

    def test_without_conflicts_just_the_rows_that_are_let_by(self):
        many, chance = 0, random.Random(87)
        for grammar in [Grammar(list(told.rules)) for told in decided_grammars()] + clean_grammars(200, seed=87):
            table = Table(States(grammar))
            if table.conflicts():
                continue
            many += 1
            words = least_by_word(grammar.rules, 5)[grammar.start]
            for row in rows_for(grammar, chance):
                if len(row) <= 5:
                    for told in (table, Laid(table)):
                        self.assertIs(OwnReading(grammar.rules, told, row).where is None, tuple(row) in words)
        self.assertGreater(many, 60)

    def test_without_conflicts_the_only_tree(self):
        for grammar in decided_grammars():
            table = Table(States(grammar))
            if not table.conflicts():
                for tree in small_trees(grammar.rules, 9, 6)[grammar.start]:
                    for told in (table, Laid(table)):
                        self.assertEqual(OwnReading(grammar.rules, told, row_of(tree)).steps, steps_of(tree))

    def test_ranks(self):
        table = Table(States(read_grammar("left + -\nleft *\nright ^\nnone =\n"
                                          "E : E + E | E - E | E * E | E ^ E | E = E | n")))
        wanted = {"n+n-n": "n n + n -", "n+n*n": "n n n * +", "n*n+n": "n n * n +", "n^n^n": "n n n ^ ^", "n=n": "n n =",
                  "n=n+n": "n n = n +", "n+n=n": "n n n = +"}
        for told in (table, Laid(table)):
            for row, order in wanted.items():
                reading = OwnReading(table.grammar.rules, told, row)
                self.assertIsNone(reading.where)
                ops = ["+-*^= n"[step[1]] if step[1] != 5 else "n" for step in reading.steps if step[0] == "reduce"]
                self.assertEqual(" ".join(ops), order)
            self.assertEqual(OwnReading(table.grammar.rules, told, "n=n=n").where, 3)

    def test_heads(self):
        for grammar in decided_grammars()[:20]:
            laid = Laid(Table(States(grammar)))
            for group in range(laid.many()):
                for head in heads_of(grammar.rules):
                    self.assertIn(laid.to(group, head), [None] + list(range(laid.many())))


if __name__ == "__main__":
    unittest.main()
