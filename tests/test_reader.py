"""[91] to [95]: rows read by tables, by hand; what is refused, and that nothing else changes."""

import unittest

from rulestable.errors import NoRow, Open
from rulestable.laying import Laid
from rulestable.reader import Reading, can_take, takable
from rulestable.trees import Leaf, Node
from tests.growing import row_of, written
from tests.reading import both_of, table_of, told_by
from tests.refusing import Refusing, spoil
from tests.texts import EMPTY, SUMS, TERMS
from tests.things import all_things, no_rows

PAIRS = "S : C C\nC : c C | d"
ONES = "S : S a | a"
OPEN_TEXTS = (SUMS, "S : S | a", "S : A | B\nA : a\nB : a", "S : S S | ~", "left +\nE : E + E | E * E | n",
              "left *\nE : E + E | E * E | n")


def read_in(text, row):
    """What both tables of a text tell of a row: word, tree, place and what could stand there."""
    told = []
    for table in both_of(text):
        reading = Reading(table, row.split())
        tree = reading.made()
        told.append((reading.word(), tree and written(tree), reading.where(), reading.expected()))
    assert told[0] == told[1]
    return told[0]


class TestByHand(unittest.TestCase):

    def test_a_row_that_is_read(self):
        reading = Reading(table_of(PAIRS), ["c", "d", "d"])
        self.assertEqual(reading.word(), "read")
        self.assertEqual(reading.steps(), [("shift", "c"), ("shift", "d"), ("reduce", 2), ("reduce", 1), ("shift", "d"),
                                           ("reduce", 2), ("reduce", 0)])
        self.assertEqual(written(reading.made()), (0, (1, "c", (2, "d")), (2, "d")))
        self.assertEqual(reading.stacks(), [[0], [0, 3], [0, 3, 4], [0, 1, 7]])
        self.assertIsNone(reading.where())
        self.assertEqual(reading.expected(), [])

    def test_the_same_row_by_groups(self):
        reading = Reading(Laid(table_of(PAIRS)), ["c", "d", "d"])
        self.assertEqual(reading.steps(), Reading(table_of(PAIRS), ["c", "d", "d"]).steps())
        self.assertEqual(reading.stacks(), [[0], [0, 3], [0, 3, 4], [0, 1, 4]])
        self.assertEqual(written(reading.made()), (0, (1, "c", (2, "d")), (2, "d")))

    def test_a_row_that_is_refused_at_a_sign(self):
        reading = Reading(table_of(PAIRS), ["c", "d", "d", "d"])
        self.assertEqual(reading.word(), "refused")
        self.assertEqual(reading.steps(), [("shift", "c"), ("shift", "d"), ("reduce", 2), ("reduce", 1), ("shift", "d")])
        self.assertIsNone(reading.made())
        self.assertEqual(reading.stacks(), [[0], [0, 3], [0, 3, 4], [0, 1, 7]])
        self.assertEqual(reading.where(), 3)
        self.assertEqual(reading.expected(), ["$"])

    def test_a_row_that_is_refused_at_the_end(self):
        reading = Reading(table_of(PAIRS), ["c", "d"])
        self.assertEqual((reading.word(), reading.where(), reading.expected()), ("refused", 2, ["c", "d"]))
        self.assertEqual(reading.steps(), [("shift", "c"), ("shift", "d")])
        self.assertEqual(reading.stacks(), [[0], [0, 3], [0, 3, 4]])
        self.assertIsNone(reading.made())

    def test_rules_gone_back_by_ahead_of_the_refusal(self):
        # With `)` ahead the tree of n is built up, and nothing waits for `)` then.
        reading = Reading(table_of("S : E ; | ( E )\nE : n"), ["n", ")"])
        self.assertEqual(reading.steps(), [("shift", "n")])
        reading = Reading(Laid(table_of("S : E ; | ( E )\nE : n")), ["n", ")"])
        self.assertEqual(reading.steps(), [("shift", "n"), ("reduce", 2)])
        self.assertEqual(reading.stacks(), Reading(Laid(table_of("S : E ; | ( E )\nE : n")), ["n"]).stacks())
        self.assertEqual((reading.where(), reading.expected()), (1, [";"]))

    def test_rows_without_signs(self):
        self.assertEqual(read_in("S : ~", ""), ("read", (0,), None, []))
        self.assertEqual(read_in(EMPTY, ""), ("read", (1, (3,)), None, []))
        self.assertEqual(read_in(PAIRS, ""), ("refused", None, 0, ["c", "d"]))
        reading = Reading(table_of("S : A B\nA : ~\nB : ~"), [])
        self.assertEqual(reading.steps(), [("reduce", 1), ("reduce", 2), ("reduce", 0)])
        self.assertEqual(reading.stacks(), [[0]])
        reading = Reading(table_of(PAIRS), [])
        self.assertEqual((reading.steps(), reading.stacks()), ([], [[0]]))

    def test_heads_that_may_be_empty(self):
        self.assertEqual(read_in(EMPTY, "c"), ("read", (0, (3,), (5,), "c"), None, []))
        self.assertEqual(read_in(EMPTY, "a"), ("read", (1, (2, "a")), None, []))
        self.assertEqual(read_in(EMPTY, "b a c"), ("read", (0, (3,), (4, "b", (2, "a")), "c"), None, []))
        self.assertEqual(read_in(EMPTY, "a b c"), ("read", (0, (2, "a"), (4, "b", (3,)), "c"), None, []))
        self.assertEqual(read_in(EMPTY, "b"), ("refused", None, 1, ["a", "c"]))
        self.assertEqual(read_in(EMPTY, "a a"), ("refused", None, 1, ["$", "b", "c"]))
        self.assertEqual(read_in(EMPTY, "c c"), ("refused", None, 1, ["$"]))

    def test_signs_that_no_rule_has(self):
        self.assertEqual(read_in(EMPTY, "zz"), ("refused", None, 0, ["$", "a", "b", "c"]))
        self.assertEqual(read_in(PAIRS, "c zz d"), ("refused", None, 1, ["c", "d"]))
        self.assertEqual(read_in("S : ~", "0"), ("refused", None, 0, ["$"]))
        self.assertEqual(read_in("left zz +\n" + SUMS, "n zz n"), ("refused", None, 1, ["$", "+"]))

    def test_what_could_stand_there_rises_with_the_end_mark(self):
        self.assertEqual(read_in("S : S ! | S & | a", "a a"), ("refused", None, 1, ["!", "$", "&"]))

    def test_a_sign_that_has_an_entry_but_would_not_be_taken(self):
        # Of groups: behind n there is an entry with `)` ahead, but outside of brackets it leads to none.
        reading = Reading(Laid(table_of(TERMS)), ["n", "n"])
        self.assertEqual(reading.expected(), ["$", "*", "+"])
        reading = Reading(Laid(table_of(TERMS)), ["(", "n", "n"])
        self.assertEqual(reading.expected(), [")", "*", "+"])

    def test_sides(self):
        n, sums = (2, "n"), {}
        for side in ("left", "right", "none"):
            sums[side] = read_in(f"{side} +\n{SUMS}", "n + n + n")
            self.assertEqual(read_in(f"{side} +\n{SUMS}", "n + n"), ("read", (0, n, "+", n), None, []))
            self.assertEqual(read_in(f"{side} +\n{SUMS}", "n +"), ("refused", None, 2, ["(", "n"]))
        self.assertEqual(sums["left"], ("read", (0, (0, n, "+", n), "+", n), None, []))
        self.assertEqual(sums["right"], ("read", (0, n, "+", (0, n, "+", n)), None, []))
        self.assertEqual(sums["none"], ("refused", None, 3, ["$"]))
        self.assertEqual(read_in("none +\n" + SUMS, "( n + n + n )"), ("refused", None, 4, [")"]))
        self.assertEqual(read_in("none +\n" + SUMS, "n + ( n + n )")[0], "read")

    def test_the_steps_ahead_of_a_stop(self):
        reading = Reading(table_of("none +\n" + SUMS), "n + n + n".split())
        self.assertEqual(reading.steps(), [("shift", "n"), ("reduce", 2), ("shift", "+"), ("shift", "n"), ("reduce", 2)])
        self.assertEqual([len(pile) for pile in reading.stacks()], [1, 2, 3, 4])

    def test_forty_signs(self):
        for table in both_of(ONES):
            reading = Reading(table, ["a"] * 40)
            self.assertEqual(reading.word(), "read")
            self.assertEqual(row_of(reading.made()), ["a"] * 40)
            self.assertEqual(len(reading.stacks()), 41)
            self.assertEqual((reading.made().size(), reading.made().depth()), (80, 41))
        for table in both_of("S : ( S ) | ~"):
            reading = Reading(table, ["("] * 20 + [")"] * 20)
            self.assertEqual((reading.word(), reading.made().depth()), ("read", 21))
            reading = Reading(table, ["("] * 40)
            self.assertEqual((reading.where(), reading.expected()), (40, ["(", ")"]))
            self.assertEqual(len(reading.stacks()[40]), 41)

    def test_kinds(self):
        for row in (["n", "+", "n"], ["n", "n"], []):
            reading = Reading(table_of("left +\n" + SUMS), row)
            self.assertIs(type(reading.word()), str)
            for told in (reading.steps(), reading.stacks(), reading.expected()):
                self.assertIs(type(told), list)
            self.assertTrue(all(type(step) is tuple and len(step) == 2 for step in reading.steps()))
            self.assertTrue(all(type(pile) is list for pile in reading.stacks()))
            self.assertIn(type(reading.where()), (int, type(None)))
            self.assertIn(type(reading.made()), (Node, type(None)))
        self.assertIs(type(Reading(table_of(ONES), ["a"]).made().children[0]), Leaf)


class TestTaking(unittest.TestCase):

    def test_by_hand(self):
        table = table_of(PAIRS)
        self.assertEqual([can_take(table, [0], ahead) for ahead in ("c", "d", "$")], [True, True, False])
        self.assertEqual([can_take(table, [0, 1, 7], ahead) for ahead in ("c", "d", "$")], [False, False, True])
        self.assertEqual(takable(table, [0]), ["c", "d"])
        self.assertEqual(takable(table, [0, 1, 7]), ["$"])
        self.assertEqual(takable(table, [0, 3, 4]), ["c", "d"])
        laid = Laid(table)
        self.assertEqual(takable(laid, [0, 1, 4]), ["$"])
        self.assertEqual(takable(laid, [0, 3, 4]), ["c", "d"])

    def test_the_answers_are_truths(self):
        for table in both_of("none +\n" + SUMS):
            for pile in Reading(table, "n + n".split()).stacks():
                for ahead in ("+", "(", ")", "n", "$", "zz"):
                    self.assertIs(type(can_take(table, pile, ahead)), bool)

    def test_signs_that_no_rule_has(self):
        for table in both_of("left zz +\n" + SUMS):
            for pile in Reading(table, "n + n".split()).stacks():
                for ahead in ("zz", "a", "0", "aaaaaa", "(("):
                    self.assertIs(can_take(table, pile, ahead), False)

    def test_where_a_rank_stops(self):
        for table in both_of("none +\n" + SUMS):
            pile = Reading(table, "n + n".split()).stacks()[-1]
            self.assertIs(can_take(table, pile, "+"), False)
            self.assertIs(can_take(table, pile, "$"), True)

    def test_the_pile_stays_as_it_is(self):
        for table in both_of(TERMS):
            for pile in Reading(table, "n * ( n + n )".split()).stacks():
                before = list(pile)
                for ahead in table.grammar.signs() + ["$", "zz"]:
                    can_take(table, pile, ahead)
                told = takable(table, pile)
                self.assertEqual(pile, before)
                told.append("zz")
                self.assertEqual(takable(table, pile), told[:-1])


class TestRefused(Refusing):

    def test_open_choices(self):
        for text in OPEN_TEXTS:
            table = table_of(text)
            state, ahead = table.open_ones()[0]
            for row in ([], ["a"], ["n"], ["zz"] * 40):
                self.refuses(Open, "state", state, Reading, table, row)
                self.refuses(Open, "ahead", ahead, Reading, table, row)

    def test_the_first_open_one_not_the_first_conflict(self):
        table = table_of(OPEN_TEXTS[-1])
        self.assertGreater(len(table.open_ones()), 2)
        self.assertNotEqual(table.open_ones()[0], table.conflicts()[0][:2])

    def test_open_choices_ahead_of_rows(self):
        table = table_of(SUMS)
        state, ahead = table.open_ones()[0]
        for thing in no_rows(40):
            self.refuses(Open, "state", state, Reading, table, thing)
            self.refuses(Open, "ahead", ahead, Reading, table, thing)

    def test_without_ranks(self):
        self.assertEqual(Reading(table_of("left +\n" + SUMS), ["n"]).word(), "read")
        self.refuses(Open, "ahead", "+", Reading, table_of("left +\n" + SUMS, False), ["n"])

    def test_things_that_are_no_rows(self):
        for table in both_of(ONES):
            for thing in no_rows(40):
                self.refuses(NoRow, "found", thing, Reading, table, thing)

    def test_forty_signs_and_forty_one(self):
        for table in both_of(ONES):
            for sign in ("a", "zz"):
                Reading(table, [sign] * 40)
                more = [sign] * 41
                self.refuses(NoRow, "found", more, Reading, table, more)

    def test_what_is_refused_changes_nothing(self):
        for table in both_of(ONES):
            before = told_by(Reading(table, ["a", "a"]))
            for thing in no_rows(40):
                self.assertRaises(NoRow, Reading, table, thing)
            self.assertEqual(told_by(Reading(table, ["a", "a"])), before)

    def test_whatever_would_be_taken(self):
        # Other things than signs and the end mark are never taken.
        for table in both_of(ONES):
            for thing in all_things():
                if type(thing) is not str or thing not in ("a", "$"):
                    self.assertIs(can_take(table, [0], thing), False)


class TestNothingChanges(unittest.TestCase):

    def test_the_row_handed_in(self):
        for row in (["n", "+", "n"], ["n", "n"], []):
            given = list(row)
            reading = Reading(table_of("left +\n" + SUMS), given)
            self.assertEqual(given, row)
            before = told_by(reading)
            given.append("zz")
            given.reverse()
            self.assertEqual(told_by(reading), before)

    def test_lists_told_are_the_askers_own(self):
        for row in ("n + n", "n + n )", "( n", ""):
            for table in both_of("left +\n" + SUMS):
                reading = Reading(table, row.split())
                before = told_by(reading)
                spoil(self, reading.steps, reading.stacks, reading.expected)
                self.assertEqual(told_by(reading), before)

    def test_the_same_of_another_made_alike(self):
        for row in ("n + n", "n + n )", "( n", ""):
            for text in ("left +\n" + SUMS, "none +\n" + SUMS):
                one, other = both_of(text), both_of(text)
                for place in (0, 1):
                    told = told_by(Reading(one[place], row.split()))
                    self.assertEqual(told_by(Reading(other[place], row.split())), told)
                    self.assertEqual(told_by(Reading(one[place], row.split())), told)

    def test_readings_by_one_table(self):
        table = table_of("left +\n" + SUMS)
        one = Reading(table, "n + n".split())
        before = told_by(one)
        self.assertEqual(Reading(table, "n )".split()).where(), 1)
        self.assertEqual(told_by(one), before)


if __name__ == "__main__":
    unittest.main()
