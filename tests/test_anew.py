"""[111] to [113]: readings that are kept and changed, by hand; what is refused, and that nothing else changes."""

import unittest

from rulestable.anew import Anew
from rulestable.errors import NoPlace, NoRow, Open
from rulestable.reader import Reading
from rulestable.tables import Table
from rulestable.treetext import show_tree
from tests.reading import both_of, table_of, told_by
from tests.refusing import Refusing, spoil
from tests.texts import EMPTY, SUMS
from tests.things import all_things, no_rows

ONES = "S : S a | a"
LEFT = "left +\n" + SUMS
RIGHT = "right +\n" + SUMS


def kept_by(text, row):
    """A reading that is kept, by each of the two tables of a text."""
    return [Anew(table, row.split()) for table in both_of(text)]


def all_told(kept):
    return kept.signs(), kept.looked(), told_by(kept)


class Changing(Refusing):

    def changed(self, text, row, place, out, put, wanted):
        """Behind the change the row is read as afresh, and these places were looked at."""
        for kept in kept_by(text, row):
            self.assertIsNone(kept.change(place, out, put.split()))
            signs = row.split()[:place] + put.split() + row.split()[place + out:]
            self.assertEqual(kept.signs(), signs)
            self.assertEqual(told_by(kept), told_by(Reading(kept.table, signs)))
            self.assertEqual(kept.looked(), wanted, (row, place, out, put))
            self.assertIs(type(kept.looked()), tuple)


class TestTheFirstRow(Changing):

    def test_all_that_a_reading_tells(self):
        for text, row in ((LEFT, "n + n"), (LEFT, "n + )"), (ONES, ""), (EMPTY, ""), (EMPTY, "zz"), (RIGHT, "( n + n")):
            for kept in kept_by(text, row):
                self.assertEqual(told_by(kept), told_by(Reading(kept.table, row.split())))
                self.assertEqual(kept.signs(), row.split())

    def test_a_row_that_is_read(self):
        for kept in kept_by(ONES, "a a a"):
            self.assertEqual(kept.looked(), (0, 4))

    def test_a_row_that_is_refused(self):
        for row, behind in (("zz a a", 1), ("a a zz a", 3), ("a zz", 2), ("zz", 1)):
            for kept in kept_by(ONES, row):
                self.assertEqual(kept.looked(), (0, behind))

    def test_a_row_that_is_refused_at_its_end(self):
        for kept in kept_by(LEFT, "n +"):
            self.assertEqual((kept.looked(), kept.where()), ((0, 3), 2))

    def test_a_row_without_signs(self):
        for text in (ONES, EMPTY):
            for kept in kept_by(text, ""):
                self.assertEqual(kept.looked(), (0, 1))


class TestChanges(Changing):

    def test_one_sign_for_another(self):
        self.changed(ONES, "a a a a", 1, 1, "a", (1, 2))
        self.changed(ONES, "a a a a", 0, 1, "a", (0, 1))
        self.changed(ONES, "a a a a", 3, 1, "a", (3, 4))
        self.changed("S : S a | S b | a | b", "a a a a", 1, 1, "b", (1, 3))
        self.changed("S : S a | S b | a | b", "a a a a", 3, 1, "b", (3, 5))

    def test_signs_put_in(self):
        # Behind the put sign the stack is another one than that at the first sign was.
        self.changed(ONES, "a a a a", 0, 0, "a", (0, 3))
        self.changed(ONES, "a a a a", 1, 0, "a", (1, 3))
        self.changed(ONES, "a a a a", 2, 0, "a", (2, 3))
        self.changed(ONES, "a a a a", 2, 0, "a a a", (2, 5))
        self.changed(ONES, "a a a a", 4, 0, "a", (4, 5))

    def test_signs_taken_out(self):
        self.changed(ONES, "a a a a", 0, 1, "", (0, 2))
        self.changed(ONES, "a a a a", 1, 1, "", (1, 2))
        self.changed(ONES, "a a a a", 2, 1, "", (2, 2))
        self.changed(ONES, "a a a a", 3, 1, "", (3, 3))
        self.changed(ONES, "a a a a", 2, 2, "", (2, 2))
        self.changed(ONES, "a a a a", 1, 3, "", (1, 2))

    def test_nothing_taken_out_and_nothing_put_in(self):
        for place in range(5):
            self.changed(ONES, "a a a a", place, 0, "", (place, place))
            self.changed(LEFT, "n + n +", place, 0, "", (place, place))
        self.changed(ONES, "", 0, 0, "", (0, 0))
        self.changed(EMPTY, "", 0, 0, "", (0, 0))

    def test_all_taken_out(self):
        self.changed(ONES, "a a a a", 0, 4, "", (0, 1))
        self.changed(EMPTY, "a b c", 0, 3, "", (0, 1))
        self.changed(ONES, "a a a a", 0, 4, "a", (0, 2))
        self.changed(ONES, "a a a a", 0, 4, "a a", (0, 2))

    def test_a_row_without_signs(self):
        self.changed(ONES, "", 0, 0, "a a", (0, 3))
        self.changed(ONES, "", 0, 0, "zz", (0, 1))
        self.changed(EMPTY, "", 0, 0, "a b c", (0, 4))

    def test_ahead_of_the_place_of_a_refusal(self):
        # The stack is as it was ahead of the sign that is refused, so that sign is not looked at again.
        self.changed(ONES, "a a zz a", 0, 1, "a", (0, 1))
        self.changed(ONES, "a a zz a", 1, 1, "a", (1, 2))
        self.changed(ONES, "a zz", 0, 1, "a", (0, 1))
        self.changed(ONES, "a a zz a", 1, 0, "a", (1, 3))
        self.changed(ONES, "a a zz a", 0, 2, "a", (0, 2))
        self.changed(ONES, "a a zz a", 0, 2, "", (0, 1))

    def test_at_the_place_of_a_refusal(self):
        # Behind it there was no stack, so reading goes on to its end.
        self.changed(ONES, "a a zz a a", 2, 1, "a", (2, 6))
        self.changed(ONES, "a a zz a a", 2, 1, "", (2, 5))
        self.changed(ONES, "a a zz a a", 2, 1, "b", (2, 3))
        self.changed(ONES, "a a zz a a", 2, 0, "a", (2, 3))
        self.changed(ONES, "a a zz a a", 2, 0, "", (2, 2))
        self.changed(ONES, "zz", 0, 1, "a", (0, 2))
        self.changed(ONES, "zz", 0, 1, "", (0, 1))

    def test_behind_the_place_of_a_refusal(self):
        self.changed(ONES, "a zz a a", 2, 1, "a", (2, 2))
        self.changed(ONES, "a zz a a", 2, 2, "", (2, 2))
        self.changed(ONES, "a zz a a", 4, 0, "a a", (4, 4))
        self.changed(ONES, "a zz a a", 3, 0, "zz", (3, 3))
        self.changed(ONES, "zz", 1, 0, "a", (1, 1))

    def test_over_the_place_of_a_refusal(self):
        self.changed(ONES, "a zz a a", 0, 2, "a", (0, 4))
        self.changed(ONES, "a zz a a", 1, 2, "a a a a", (1, 7))

    def test_at_the_end(self):
        self.changed(LEFT, "n +", 2, 0, "n", (2, 4))
        self.changed(LEFT, "n +", 2, 0, "n )", (2, 4))
        self.changed(LEFT, "n", 1, 0, "+", (1, 3))
        self.changed(LEFT, "n + n", 2, 1, "", (2, 3))
        self.changed(LEFT, "n + n", 3, 0, "+ n", (3, 5))

    def test_brackets(self):
        # Within brackets all is as it was behind them, or right behind what is put.
        self.changed(LEFT, "n + ( n ) + n", 3, 1, "n + n", (3, 7))
        self.changed(LEFT, "n + ( n ) + n", 3, 0, "n +", (3, 7))
        self.changed(LEFT, "n + ( n ) + n", 3, 1, "( n )", (3, 7))

    def test_a_right_side(self):
        # All that stands to the left waits on the stack, so a sign more is never forgotten.
        self.changed(RIGHT, "n + n + n", 2, 0, "n +", (2, 8))
        self.changed(RIGHT, "n + n + n", 2, 1, "( n )", (2, 6))
        self.changed(RIGHT, "n + n + n", 0, 2, "", (0, 4))

    def test_a_side_that_stops(self):
        self.changed("none +\n" + SUMS, "n + n", 3, 0, "+ n", (3, 4))
        self.changed("none +\n" + SUMS, "n + n + n", 2, 1, "n", (2, 3))
        self.changed("none +\n" + SUMS, "n + n + n", 2, 2, "", (2, 4))

    def test_trees_behind_a_change(self):
        for kept in kept_by(LEFT, "n + n"):
            self.assertEqual(show_tree(kept.made()), "{0 {2 n} + {2 n}}")
            kept.change(0, 1, ["(", "n", ")"])
            self.assertEqual(show_tree(kept.made()), "{0 {1 ( {2 n} )} + {2 n}}")
            kept.change(3, 2, [])
            self.assertEqual(show_tree(kept.made()), "{1 ( {2 n} )}")
            kept.change(2, 1, [])
            self.assertEqual((kept.word(), kept.made(), kept.where(), kept.expected()), ("refused", None, 2, [")", "+"]))

    def test_several_changes(self):
        for kept in kept_by(ONES, "a a a"):
            for place, out, put, wanted in ((1, 1, ["zz"], (1, 2)), (2, 1, ["a", "a"], (2, 2)), (4, 0, ["a"], (4, 4)),
                                            (1, 1, ["a"], (1, 6)), (0, 5, [], (0, 1)), (0, 0, ["a"], (0, 2))):
                kept.change(place, out, put)
                self.assertEqual(kept.looked(), wanted)
                self.assertEqual(told_by(kept), told_by(Reading(kept.table, kept.signs())))
            self.assertEqual((kept.signs(), kept.word()), (["a"], "read"))

    def test_forty_signs(self):
        row = " ".join(["a"] * 38)
        self.changed(ONES, row, 38, 0, "a a", (38, 40))
        self.changed(ONES, row, 5, 1, "a a a", (5, 8))
        self.changed(ONES, row, 0, 38, row + " a a", (0, 40))
        self.changed(ONES, row + " a a", 7, 1, "a", (7, 8))
        self.changed(ONES, row + " a a", 40, 0, "", (40, 40))
        self.changed(ONES, row + " a a", 0, 40, "", (0, 1))


class Asked(Table):
    """A table that keeps what it was asked."""

    def __init__(self, states):
        Table.__init__(self, states)
        self.asked = []

    def entry(self, state, ahead):
        self.asked.append(ahead)
        return Table.entry(self, state, ahead)


class TestTheTableIsNotAsked(unittest.TestCase):

    def test_places_that_are_not_looked_at(self):
        table = Asked(table_of("S : S a | S b | S c | a").states)
        kept = Anew(table, "a b c b c c".split())
        for place, out, put, wanted in ((1, 1, ["b"], ["b"]), (6, 0, [], []), (3, 0, ["a", "a"], ["a", "a", "b"]),
                                        (3, 2, [], ["b"]), (2, 1, ["zz"], ["zz"]), (4, 1, ["a"], [])):
            table.asked.clear()
            kept.change(place, out, put)
            looked = (kept.signs() + ["$"])[kept.looked()[0]:kept.looked()[1]]
            self.assertEqual(list(dict.fromkeys(table.asked)), list(dict.fromkeys(looked)))
            self.assertEqual(list(dict.fromkeys(looked)), list(dict.fromkeys(wanted)))


class TestRefused(Changing):

    def test_made_as_a_reading_is(self):
        for text in (SUMS, "S : S | a", "left *\nE : E + E | E * E | n"):
            table = table_of(text)
            state, ahead = table.open_ones()[0]
            for thing in [[], ["n"]] + no_rows(40):
                self.refuses(Open, "state", state, Anew, table, thing)
                self.refuses(Open, "ahead", ahead, Anew, table, thing)
        for table in both_of(ONES):
            for thing in no_rows(40):
                self.refuses(NoRow, "found", thing, Anew, table, thing)
            Anew(table, ["a"] * 40)

    def no_places(self, last):
        """Things that are no whole numbers from 0 to the last one."""
        things = [thing for thing in all_things() if type(thing) is not int or not 0 <= thing <= last]
        return things + [last + 1, last + 2, -1, -last - 1, "0", 0.0, 1.0, [0], (0,)]

    def test_places(self):
        for row in ("a a a", "a zz a", ""):
            for kept in kept_by(ONES, row):
                before = all_told(kept)
                for thing in self.no_places(len(row.split())):
                    self.refuses(NoPlace, "place", thing, kept.change, thing, 0, [])
                self.assertEqual(all_told(kept), before)

    def test_how_many_are_taken_out(self):
        for row in ("a a a", "a zz a", ""):
            for kept in kept_by(ONES, row):
                before = all_told(kept)
                for place in range(len(row.split()) + 1):
                    for thing in self.no_places(len(row.split()) - place):
                        self.refuses(NoPlace, "place", thing, kept.change, place, thing, [])
                self.assertEqual(all_told(kept), before)

    def test_what_is_put(self):
        for row in ("a a a", "a zz a", ""):
            length = len(row.split())
            for out in range(length + 1):
                things = no_rows(40 - length + out)
                for kept in kept_by(ONES, row):
                    before = all_told(kept)
                    for place in range(length + 1 - out):
                        for thing in things:
                            self.refuses(NoRow, "found", thing, kept.change, place, out, thing)
                    self.assertEqual(all_told(kept), before)

    def test_a_row_that_would_come_to_more_than_forty(self):
        for count, place, out in ((38, 0, 0), (38, 38, 0), (40, 0, 0), (40, 40, 0), (40, 3, 2), (0, 0, 0), (12, 0, 12), (1, 1, 0)):
            for kept in kept_by(ONES, " ".join(["a"] * count)):
                before = all_told(kept)
                for more in (1, 2, 40, 4000):
                    put = ["a"] * (40 - count + out + more)
                    self.refuses(NoRow, "found", put, kept.change, place, out, put)
                self.assertEqual(all_told(kept), before)
                kept.change(place, out, ["a"] * (40 - count + out))
                self.assertEqual(kept.signs(), ["a"] * 40)

    def test_the_place_first_then_out_then_put(self):
        for kept in kept_by(ONES, "a a a"):
            before = all_told(kept)
            for place in (-1, 4, None, True, "0", [], 1.0):
                for out in (-1, 4, None, False, "0", {}, 0, 1):
                    for put in (None, ["a"] * 41, [0], "a", [], ["a"]):
                        self.refuses(NoPlace, "place", place, kept.change, place, out, put)
            for place in range(4):
                for out in (-2, 5, None, False, "0", {}):
                    for put in (None, ["a"] * 41, [0], "a", [], ["a"]):
                        self.refuses(NoPlace, "place", out, kept.change, place, out, put)
            self.assertEqual(all_told(kept), before)

    def test_what_is_refused_keeps_what_was_looked_at(self):
        for kept in kept_by(ONES, "a a a"):
            kept.change(1, 1, ["a"])
            self.assertRaises(NoPlace, kept.change, 4, 0, [])
            self.assertRaises(NoPlace, kept.change, 0, 4, [])
            self.assertRaises(NoRow, kept.change, 0, 0, ["A"])
            self.assertEqual(kept.looked(), (1, 2))


class TestNothingChanges(unittest.TestCase):

    def test_what_is_handed_in(self):
        for table in both_of(ONES):
            row, put = ["a", "a"], ["a", "zz"]
            kept = Anew(table, row)
            row.append("zz")
            self.assertEqual(kept.signs(), ["a", "a"])
            kept.change(1, 0, put)
            self.assertEqual((row, put), (["a", "a", "zz"], ["a", "zz"]))
            before = all_told(kept)
            put.append("a")
            row.clear()
            self.assertEqual(all_told(kept), before)

    def test_what_is_told(self):
        for kept in kept_by(LEFT, "n + n )"):
            for turn in range(2):
                before = all_told(kept)
                spoil(self, kept.signs, kept.steps, kept.stacks, kept.expected)
                self.assertEqual(all_told(kept), before)
                kept.change(2, 1, ["(", "n"])
                self.assertEqual(told_by(kept), told_by(Reading(kept.table, kept.signs())))

    def test_what_was_told_ahead_of_a_change(self):
        for kept in kept_by(LEFT, "n + n"):
            signs, steps, stacks, tree = kept.signs(), kept.steps(), kept.stacks(), kept.made()
            before = (list(signs), list(steps), [list(pile) for pile in stacks], show_tree(tree))
            kept.change(0, 1, ["(", "n", ")"])
            self.assertEqual((signs, steps, stacks, show_tree(tree)), before)

    def test_its_own_signs_put_in(self):
        for kept in kept_by(ONES, "a a"):
            kept.change(1, 1, kept.signs())
            self.assertEqual(kept.signs(), ["a", "a", "a"])

    def test_two_by_one_table(self):
        for table in both_of(ONES):
            one, other = Anew(table, ["a", "a"]), Anew(table, ["a", "a"])
            before = all_told(other)
            one.change(0, 1, ["zz"])
            self.assertEqual(all_told(other), before)
            other.change(0, 1, ["zz"])
            self.assertEqual(all_told(other), all_told(one))


if __name__ == "__main__":
    unittest.main()
