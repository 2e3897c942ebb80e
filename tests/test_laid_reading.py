"""[84]: by a laid table the same rows are read as by the table of which it was made, with the same trees.

Rows are read by the package's readings and by the test's own ones, which ask the tables for nothing but entries and
where heads lead.
"""

import random
import unittest

from rulestable.laying import Laid
from rulestable.reader import Reading
from rulestable.trees import alike, steps_of
from tests.growing import row_of, small_trees
from tests.looking import heads_of, least_by_word
from tests.reading import OwnReading, both_of, decided_tables, plain_tables, rows_for


class TestLaid(unittest.TestCase):

    def same(self, table, laid, row):
        rules = table.grammar.rules
        one, other = OwnReading(rules, table, row), OwnReading(rules, laid, row)
        self.assertEqual(other.where, one.where)
        self.assertEqual(len(other.piles), len(one.piles))
        groups = laid.groups()
        for pile, states in zip(other.piles, one.piles):
            self.assertEqual(len(pile), len(states))
            self.assertTrue(all(state in groups[group] for group, state in zip(pile, states)))
        shifts = [[step for step in reading.steps if step[0] == "shift"] for reading in (one, other)]
        self.assertEqual(shifts[1], shifts[0])
        if one.where is None:
            self.assertEqual(other.steps, one.steps)
        else:
            self.assertEqual(other.steps[:len(one.steps)], one.steps)
            self.assertEqual(other.expected(), one.expected())
        return one.where is None, other.steps != one.steps

    def same_told(self, table, laid, row):
        one, other = Reading(table, row), Reading(laid, row)
        self.assertEqual((other.word(), other.where(), other.expected()), (one.word(), one.where(), one.expected()))
        if one.word() == "read":
            self.assertTrue(alike(one.made(), other.made()))
            self.assertEqual(other.steps(), one.steps())
        else:
            self.assertEqual((one.made(), other.made()), (None, None))

    def test_rows(self):
        chance = random.Random(86)
        read, refused, farther, fewer = 0, 0, 0, 0
        for table in decided_tables(400, seed=84):
            laid = Laid(table)
            fewer += laid.many() < table.many()
            for row in rows_for(table.grammar, chance):
                was_read, went_farther = self.same(table, laid, row)
                self.same_told(table, laid, row)
                read, refused, farther = read + was_read, refused + (not was_read), farther + went_farther
        self.assertGreater(read, 500)
        self.assertGreater(refused, 10000)
        self.assertGreater(farther, 50)
        self.assertGreater(fewer, 40)

    def test_rules_gone_back_by_ahead_of_refusing(self):
        table, laid = both_of("S : C C\nC : c C | d")
        one, other = Reading(table, ["d"]), Reading(laid, ["d"])
        self.assertEqual(one.steps(), [("shift", "d")])
        self.assertEqual(other.steps(), [("shift", "d"), ("reduce", 2)])
        self.assertEqual((one.where(), one.expected()), (1, ["c", "d"]))
        self.assertEqual((other.where(), other.expected()), (1, ["c", "d"]))


class TestEntries(unittest.TestCase):
    """What the entries of tables lead to: a table that is right reads the rows that are let by."""

    def test_without_conflicts_just_the_rows_that_are_let_by(self):
        many, chance = 0, random.Random(87)
        for table in plain_tables(400, seed=87):
            many += 1
            rules, laid = table.grammar.rules, Laid(table)
            words = least_by_word(rules, 5)[table.grammar.start]
            for row in rows_for(table.grammar, chance):
                if len(row) <= 5:
                    for told in (table, laid):
                        self.assertIs(OwnReading(rules, told, row).where is None, tuple(row) in words)
        self.assertGreater(many, 60)

    def test_without_conflicts_the_only_tree(self):
        for table in plain_tables(400, seed=88):
            for tree in small_trees(table.grammar.rules, 9, 6)[table.grammar.start]:
                for told in (table, Laid(table)):
                    self.assertEqual(OwnReading(table.grammar.rules, told, row_of(tree)).steps, steps_of(tree))

    def test_ranks(self):
        wanted = {"n+n-n": "n n + n -", "n+n*n": "n n n * +", "n*n+n": "n n * n +", "n^n^n": "n n n ^ ^", "n=n": "n n =",
                  "n=n+n": "n n = n +", "n+n=n": "n n n = +"}
        for told in both_of("left + -\nleft *\nright ^\nnone =\nE : E + E | E - E | E * E | E ^ E | E = E | n"):
            for row, order in wanted.items():
                reading = OwnReading(told.grammar.rules, told, row)
                self.assertIsNone(reading.where)
                ops = ["+-*^= n"[step[1]] if step[1] != 5 else "n" for step in reading.steps if step[0] == "reduce"]
                self.assertEqual(" ".join(ops), order)
            self.assertEqual(OwnReading(told.grammar.rules, told, "n=n=n").where, 3)

    def test_heads(self):
        for table in decided_tables(100, seed=89)[:20]:
            laid = Laid(table)
            for group in range(laid.many()):
                for head in heads_of(laid.grammar.rules):
                    self.assertIn(laid.to(group, head), [None] + list(range(laid.many())))


if __name__ == "__main__":
    unittest.main()
