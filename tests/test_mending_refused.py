"""[122]: what mending refuses, and the order in which it does."""

import unittest

from rulestable.errors import Dead, NoPrice, NoRow, Vast
from rulestable.grammartext import read_grammar
from rulestable.mending import mend
from tests.refusing import Refusing
from tests.texts import BARE_FORTY_ONE, DEAD, DEAD_AND_VAST, FORTY_ONE, SUMS
from tests.things import EqualToAll, all_things, no_rows, other_things

ONE = read_grammar("S : a")
# No tree of the start: nothing else, with live heads beside, and with vast ones.
STARTLESS = ("S : S", "S : S a", "S : A S | S\nA : a", "S : A a\nA : B\nB : A | S", "S : a S\nB : b | ~")
STARTLESS_AND_VAST = "S : S\n" + FORTY_ONE.replace("S :", "T :")


class TestRefused(Refusing):

    def test_grammars_without_a_tree_of_the_start(self):
        for text in STARTLESS + (STARTLESS_AND_VAST,):
            self.refuses(Dead, "number", 0, mend, read_grammar(text), [], {"a": (1, 1), "b": (1, 1), "c": (1, 1)})

    def test_grammars_with_other_rules_that_are_not_live(self):
        for text in (DEAD, "S : a\nT : S", "S : a | T\nT : T b", "S : a | S T a\nT : b T"):
            self.assertEqual(mend(read_grammar(text), [], {"a": (1, 1), "b": (1, 1)}).price(), 1)

    def test_vast_grammars(self):
        prices = dict.fromkeys("abc", (1, 1))
        self.refuses(Vast, "head", "S", mend, read_grammar(FORTY_ONE), [], prices)
        self.refuses(Vast, "head", "S", mend, read_grammar(BARE_FORTY_ONE), [], prices)
        self.refuses(Vast, "head", "A", mend, read_grammar(DEAD_AND_VAST), [], prices)
        self.refuses(Vast, "head", "T", mend, read_grammar("S : a\n" + FORTY_ONE.replace("S :", "T :")), [], prices)

    def test_rows(self):
        for thing in no_rows(10):
            self.refuses(NoRow, "found", thing, mend, ONE, thing, {"a": (1, 1)})

    def test_ten_signs_and_eleven(self):
        for sign in ("a", "zz"):
            prices = {"a": (1, 1), "zz": (1, 1)}
            self.assertEqual(mend(ONE, [sign] * 10, prices).price(), 9 if sign == "a" else 11)
            more = [sign] * 11
            self.refuses(NoRow, "found", more, mend, ONE, more, prices)

    def test_prices_that_are_no_dict(self):
        for thing in all_things() + [[("a", (1, 1))], (("a", (1, 1)),)]:
            if type(thing) is not dict:
                self.refuses(NoPrice, "found", thing, mend, ONE, ["a"], thing)
                self.refuses(NoPrice, "found", thing, mend, read_grammar("S : ~"), [], thing)

    def test_tuples_that_are_no_price(self):
        wrong = other_things() + [1, 20, "1", (1,), (1, 1, 1), [1, 1], (0, 1), (1, 0), (21, 1), (1, 21), (-1, 1), (0, 0),
                                  (True, 1), (1, True), (1.0, 1), (1, 1.0), ("1", 1), (None, 1), ((1, 1), 1), (10 ** 30, 1),
                                  {1: 1, 2: 2}, (EqualToAll(), EqualToAll()), True]
        for thing in wrong:
            self.refuses(NoPrice, "found", "a", mend, ONE, [], {"a": thing})
            self.refuses(NoPrice, "found", "zz", mend, ONE, ["zz"], {"a": (1, 1), "zz": thing})

    def test_prices_of_0_and_of_21(self):
        for price in ((0, 1), (1, 0), (21, 1), (1, 21)):
            self.refuses(NoPrice, "found", "a", mend, ONE, ["a"], {"a": price})
        for price in ((1, 1), (20, 1), (1, 20), (20, 20)):
            self.assertEqual(mend(ONE, ["a"], {"a": price}).price(), 0)

    def test_the_first_sign_rising_of_the_grammar_and_the_row(self):
        grammar = read_grammar("left zz\nS : d | b S f")
        for row, prices, wanted in (([], {}, "b"), (["a"], {}, "a"), (["c"], {"b": (1, 1)}, "c"), (["z"], {}, "b"),
                                    (["e", "c"], {"b": (1, 1)}, "c"), (["z", "g"], dict.fromkeys("bdf", (1, 1)), "g"),
                                    (["z", "g"], dict.fromkeys("bdfg", (1, 1)), "z"), (["+"], {}, "+"),
                                    (["f"], {"b": (1, 1), "d": (0, 1), "f": (0, 1)}, "d")):
            self.refuses(NoPrice, "found", wanted, mend, grammar, row, prices)

    def test_signs_of_rules_that_are_not_live_need_prices(self):
        self.refuses(NoPrice, "found", "b", mend, read_grammar("S : a\nT : b"), [], {"a": (1, 1)})


class TestInOrder(Refusing):

    def test_dead_ahead_of_all(self):
        for text in STARTLESS + (STARTLESS_AND_VAST,):
            for row in (None, "a", ["a"] * 11, ["S"]):
                for prices in (None, [], {}, {"a": (0, 0)}):
                    self.refuses(Dead, "number", 0, mend, read_grammar(text), row, prices)

    def test_vast_ahead_of_rows_and_prices(self):
        for row in (None, "a", ["a"] * 11, [], ["b"]):
            for prices in (None, [], {}, {"a": (0, 0)}):
                self.refuses(Vast, "head", "S", mend, read_grammar(FORTY_ONE), row, prices)

    def test_rows_ahead_of_prices(self):
        row = ["a"] * 11
        for thing in all_things() + [{"a": (0, 0)}, {"a": (1, 1)}]:
            self.refuses(NoRow, "found", row, mend, ONE, row, thing)
            self.refuses(NoRow, "found", None, mend, ONE, None, thing)

    def test_no_dict_ahead_of_signs(self):
        prices = [("a", (1, 1))]
        self.refuses(NoPrice, "found", prices, mend, ONE, ["zz"], prices)


class TestNothingChanges(unittest.TestCase):

    def test_what_is_handed_in(self):
        row, prices, grammar = ["n", "zz"], {"n": (1, 1), "zz": (1, 21)}, read_grammar(SUMS)
        for turn in range(2):
            self.assertRaises(NoPrice, mend, grammar, row, prices)
            self.assertEqual((row, prices), (["n", "zz"], {"n": (1, 1), "zz": (1, 21)}))
        rows = ["n"] * 11
        self.assertRaises(NoRow, mend, grammar, rows, {})
        self.assertEqual(rows, ["n"] * 11)


if __name__ == "__main__":
    unittest.main()
