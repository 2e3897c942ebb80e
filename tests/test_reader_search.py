"""[92] to [96]: many rows of many grammars, beside the test's own reading and its own search for trees."""

import itertools
import random
import unittest

from rulestable.laying import Laid
from rulestable.reader import Reading, can_take, takable
from rulestable.trees import Node
from tests.growing import go_down, row_of, small_trees, written
from tests.looking import beginnings, least_by_word, signs_of, tree_counts
from tests.reading import OwnReading, decided_tables, plain_tables, rows_for, told_by

LONGEST = 5


def short_rows(rules):
    """All rows of few signs, those of one that no rule has among them."""
    signs = signs_of(rules) + ["zz"]
    most = 4 if len(signs) < 5 else 2 if len(signs) > 6 else 3
    for size in range(most + 1):
        yield from map(list, itertools.product(signs, repeat=size))


class TestOwnReading(unittest.TestCase):

    def test_all_that_is_told(self):
        chance = random.Random(91)
        counts = {"read": 0, "refused": 0, "at the end": 0, "stopped": 0, "ranks": 0}
        for table in decided_tables(500, seed=91):
            rules = table.grammar.rules
            counts["ranks"] += bool(table.decided())
            for told in (table, Laid(table)):
                for row in rows_for(table.grammar, chance):
                    reading, own = Reading(told, row), OwnReading(rules, told, row)
                    self.assertEqual(told_by(reading), own.all_told())
                    counts[reading.word()] += 1
                    counts["at the end"] += own.where == len(row)
                    counts["stopped"] += own.stopped
                    if own.where is None:
                        go_down(self, rules, table.grammar.start, reading.made())
                        self.assertEqual(row_of(reading.made()), row)
        self.assertGreater(min(counts.values()), 20, counts)

    def test_what_would_be_taken_from_each_pile(self):
        chance = random.Random(92)
        for table in decided_tables(100, seed=92):
            rules = table.grammar.rules
            for told in (table, Laid(table)):
                for row in rows_for(table.grammar, chance)[:30]:
                    own = OwnReading(rules, told, row)
                    for pile in Reading(told, row).stacks():
                        wanted = own.taken_from(pile)
                        self.assertEqual(takable(told, pile), wanted)
                        for ahead in signs_of(rules) + ["$", "zz"]:
                            self.assertIs(can_take(told, pile, ahead), ahead in wanted)

    def test_what_would_be_taken_is_taken(self):
        chance = random.Random(93)
        for table in decided_tables(100, seed=93):
            for told in (table, Laid(table)):
                for row in rows_for(table.grammar, chance)[:30]:
                    reading = Reading(told, row)
                    place = reading.where()
                    if place is None:
                        continue
                    for ahead in signs_of(table.grammar.rules):
                        other = Reading(told, row[:place] + [ahead])
                        self.assertIs(other.where() != place, ahead in reading.expected())
                    self.assertIs(Reading(told, row[:place]).word() == "read", "$" in reading.expected())

    def test_stacks_hang_on_the_signs_ahead_alone(self):
        chance = random.Random(94)
        for table in decided_tables(100, seed=94):
            for told in (table, Laid(table)):
                for row in rows_for(table.grammar, chance)[-20:]:
                    stacks = Reading(told, row).stacks()
                    for place in range(len(row) + 1):
                        self.assertEqual(Reading(told, row[:place]).stacks(), stacks[:place + 1])


class TestWithoutConflicts(unittest.TestCase):
    """[96]: just the rows are read of which the test's own search finds a tree, and it is the only one."""

    def test_just_the_rows_that_are_let_by(self):
        many, read = 0, 0
        for table in plain_tables(500, seed=96):
            many += 1
            rules, start = table.grammar.rules, table.grammar.start
            words, begun = least_by_word(rules, LONGEST)[start], beginnings(rules, LONGEST)[start]
            for told in (table, Laid(table)):
                for row in short_rows(rules):
                    reading = Reading(told, row)
                    if reading.word() == "read":
                        read += 1
                        self.assertIn(tuple(row), words)
                    else:
                        self.refused_rightly(rules, words, begun, row, reading)
        self.assertGreater(many, 60)
        self.assertGreater(read, 300)

    def refused_rightly(self, rules, words, begun, row, reading):
        self.assertNotIn(tuple(row), words)
        place = reading.where()

        def begins(signs):
            return any(word[:len(signs)] == tuple(signs) for word in begun)

        self.assertTrue(begins(row[:place]))
        if place < len(row):
            self.assertFalse(begins(row[:place + 1]))
        wanted = [sign for sign in signs_of(rules) if begins(row[:place] + [sign])]
        self.assertEqual(reading.expected(), sorted(wanted + ["$"] * (tuple(row[:place]) in words)))

    def test_the_only_tree(self):
        many = 0
        for table in plain_tables(500, seed=97):
            rules, start = table.grammar.rules, table.grammar.start
            for told in (table, Laid(table)):
                for tree in small_trees(rules, 11, 12)[start]:
                    many += 1
                    reading = Reading(told, row_of(tree))
                    self.assertIs(type(reading.made()), Node)
                    self.assertEqual(written(reading.made()), written(tree))
                for row in short_rows(rules):
                    if Reading(told, row).word() == "read":
                        self.assertEqual(tree_counts(rules, row)[start, 0, len(row)], 1)
        self.assertGreater(many, 500)


class TestWithRanks(unittest.TestCase):
    """[96]: where ranks decide, each row that is read is let by, and its tree is one of it."""

    def test_each_row_that_is_read(self):
        read, not_read, many = 0, 0, 0
        for table in decided_tables(800, seed=98):
            if not table.decided():
                continue
            rules, start = table.grammar.rules, table.grammar.start
            words = least_by_word(rules, LONGEST)[start]
            many += 1
            for told in (table, Laid(table)):
                for row in short_rows(rules):
                    reading = Reading(told, row)
                    if reading.word() == "read":
                        read += 1
                        self.assertIn(tuple(row), words)
                        go_down(self, rules, start, reading.made())
                        self.assertEqual(row_of(reading.made()), row)
                    else:
                        not_read += tuple(row) in words
        self.assertGreater(many, 15)
        self.assertGreater(read, 200)
        # A decision may shut out rows that are let by.
        self.assertGreater(not_read, 5)


if __name__ == "__main__":
    unittest.main()
