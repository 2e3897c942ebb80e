"""[121] to [123], [126]: mends by hand, that they go together, and that nothing is changed by them."""

import unittest

from rulestable.grammartext import read_grammar
from rulestable.mending import mend
from rulestable.trees import Node
from rulestable.treetext import show_tree
from tests.growing import written
from tests.looking import signs_of
from tests.mended import Mending
from tests.refusing import spoil
from tests.texts import BARE_FORTY, DEAD, EMPTY, FORTY, SUMS, TERMS

PRICES = {"+": (1, 2), "n": (3, 4), "(": (5, 6), ")": (7, 8), "zz": (20, 1)}


def mended(text, row, prices):
    return mend(read_grammar(text), row.split(), prices)


class TestByHand(Mending):

    def told(self, text, row, prices, price, wanted=None):
        grammar, told = read_grammar(text), mended(text, row, prices)
        self.goes_together(grammar, row.split(), prices, told)
        self.assertEqual(told.price(), price)
        if wanted is not None:
            self.assertEqual(told.mended(), wanted.split())
        return told

    def test_rows_that_are_let_by(self):
        for row in ("n", "n + n", "( n )", "( n + n ) + n", "n + n + n + n + n", "( ( ( ( n ) ) ) )"):
            told = self.told(SUMS, row, PRICES, 0, row)
            self.assertEqual(told.deeds(), [("keep", sign) for sign in row.split()])
        self.assertEqual(show_tree(self.told(SUMS, "( n )", PRICES, 0).answer()), "{1 ( {2 n} )}")

    def test_a_row_without_signs(self):
        told = self.told(SUMS, "", PRICES, 3, "n")
        self.assertEqual(told.deeds(), [("put", "n")])
        self.assertEqual(show_tree(told.answer()), "{2 n}")
        told = self.told("S : a S b | ~", "", {"a": (1, 1), "b": (1, 1)}, 0, "")
        self.assertEqual((told.deeds(), show_tree(told.answer())), ([], "{1}"))
        self.assertEqual(self.told("S : ~", "", {}, 0, "").costs(), [("S", 0, 0, 0)])

    def test_signs_put_in(self):
        self.assertEqual(self.told(SUMS, "n n", PRICES, 1, "n + n").deeds(), [("keep", "n"), ("put", "+"), ("keep", "n")])
        self.told(SUMS, "n n n", PRICES, 2, "n + n + n")
        self.told(SUMS, "n +", PRICES, 2, "n")
        self.told(SUMS, "n +", dict(PRICES, n=(1, 1)), 1, "n + n")
        self.told("S : a b c d", "", dict.fromkeys("abcd", (5, 1)), 20, "a b c d")

    def test_signs_left_out(self):
        self.assertEqual(self.told(SUMS, "+", PRICES, 5, "n").mended(), ["n"])
        self.assertEqual(self.told(SUMS, ") n (", PRICES, 14, "n").deeds(), [("out", ")"), ("keep", "n"), ("out", "(")])
        self.assertEqual(self.told(SUMS, "( n", PRICES, 6, "n").deeds(), [("out", "("), ("keep", "n")])
        self.told("S : ~", "a b", {"a": (1, 2), "b": (1, 3)}, 5, "")

    def test_the_lesser_of_both(self):
        for put, out, price, wanted in ((1, 20, 1, "n + n"), (20, 1, 1, "n"), (7, 6, 6, "n"), (6, 7, 6, "n + n")):
            self.told(SUMS, "n n", {"n": (20, out), "+": (put, 20), "(": (1, 1), ")": (1, 1)}, price, wanted)

    def test_ten_signs(self):
        self.told(SUMS, "n " * 10, PRICES, 9, "n" + " + n" * 9)
        self.told(SUMS, "+ " * 10, PRICES, 23, "n")
        self.told(SUMS, "( " * 10, PRICES, 63, "n")
        self.told(SUMS, "zz " * 10, PRICES, 13, "n")
        self.told("S : a S | ~", "a " * 10, {"a": (1, 1)}, 0, "a " * 10)

    def test_signs_that_no_rule_has(self):
        told = self.told(SUMS, "zz n zz", PRICES, 2, "n")
        self.assertEqual(told.deeds(), [("out", "zz"), ("keep", "n"), ("out", "zz")])
        self.assertNotIn("zz", [cost[0] for cost in told.costs()])
        self.told("left zz\n" + SUMS, "n zz n", PRICES, 2, "n + n")

    def test_heads_that_may_be_empty(self):
        prices = {"a": (1, 1), "b": (1, 5), "c": (2, 1)}
        self.told(EMPTY, "b", prices, 2, "b c")
        self.told(EMPTY, "b", dict(prices, b=(1, 1)), 1, "")
        self.told(EMPTY, "c b", prices, 3, "b c")
        self.told(EMPTY, "a a", prices, 1, "a")
        self.told("S : A A A A\nA : ~", "a", {"a": (1, 7)}, 7, "")

    def test_prices_of_1_and_of_20(self):
        for put in (1, 20):
            for out in (1, 20):
                prices = dict.fromkeys("ab", (put, out))
                self.told("S : a", "", prices, put, "a")
                self.told("S : a", "a a", prices, out, "a")
                self.told("S : a", "b", prices, put + out, "a")
                self.told("S : ~", "a " * 10, prices, 10 * out, "")

    def test_rules_that_are_not_live(self):
        told = self.told(DEAD, "b b", {"a": (1, 1), "b": (1, 1)}, 1, "b")
        self.assertNotIn("B", [cost[0] for cost in told.costs()])
        told = self.told("S : a\nC : c", "c", {"a": (2, 1), "c": (1, 3)}, 5, "a")
        self.assertIn(("C", 0, 1, 0), told.costs())
        self.told("S : a | B b\nB : B b", "b", {"a": (20, 1), "b": (1, 20)}, 40, "a")

    def test_grammars_that_are_as_great_as_may_be(self):
        prices = dict.fromkeys(("b", "c"), (1, 1))
        told = self.told(FORTY, "", prices, 30)
        self.assertEqual(told.answer().size(), 40)
        self.told(FORTY, "b c c", prices, 27)
        told = self.told(BARE_FORTY, "b", {"a": (1, 1), "b": (1, 1)}, 1, "")
        self.assertEqual(told.answer().size(), 40)

    def test_more_signs_than_a_row_may_have(self):
        told = self.told("S : A A A\nA : B B B B\nB : a", "", {"a": (20, 1)}, 240, "a " * 12)
        self.assertEqual([deed[0] for deed in told.deeds()], ["put"] * 12)

    def test_small_trees_of_the_cheapest(self):
        rules = ["S : A A"] + [f"{head} : {after} {after} {after} {after} | ~" for head, after in zip("ABCDEF", "BCDEFG")]
        told = self.told("\n".join(rules + ["G : ~"]), "a", {"a": (1, 1)}, 1, "")
        self.assertEqual(told.answer().size(), 3)

    def test_ways_round(self):
        self.told("S : S | A | S S\nA : S | a", "a a", {"a": (1, 1)}, 0, "a a")
        self.told("S : T\nT : S | U\nU : T | x", "", {"x": (3, 1)}, 3, "x")
        self.told("S : S S S S | a | ~", "a a a a a a a a a a", {"a": (1, 1)}, 0)


class TestCostsByHand(Mending):

    def test_of_one_sign(self):
        prices = {"a": (2, 3), "b": (4, 5)}
        told = [("S", 0, 0, 2), ("S", 0, 1, 7), ("S", 1, 1, 2), ("a", 0, 0, 2), ("a", 0, 1, 7), ("a", 1, 1, 2)]
        self.assertEqual(mended("S : a", "b", prices).costs(), told)
        told = [("S", 0, 0, 2), ("S", 0, 1, 0), ("S", 1, 1, 2), ("a", 0, 0, 2), ("a", 0, 1, 0), ("a", 1, 1, 2)]
        self.assertEqual(mended("S : a", "a", prices).costs(), told)

    def test_of_two_signs(self):
        told = mended("S : b S | a", "a b", {"a": (2, 3), "b": (4, 5)}).costs()
        self.assertEqual(told, [
            ("S", 0, 0, 2), ("S", 0, 1, 0), ("S", 0, 2, 5), ("S", 1, 1, 2), ("S", 1, 2, 2), ("S", 2, 2, 2),
            ("a", 0, 0, 2), ("a", 0, 1, 0), ("a", 0, 2, 5), ("a", 1, 1, 2), ("a", 1, 2, 7), ("a", 2, 2, 2),
            ("b", 0, 0, 4), ("b", 0, 1, 7), ("b", 0, 2, 3), ("b", 1, 1, 4), ("b", 1, 2, 0), ("b", 2, 2, 4)])

    def test_one_for_each_part(self):
        for text in (SUMS, TERMS, EMPTY, DEAD):
            grammar = read_grammar(text)
            prices = dict.fromkeys(signs_of(grammar.rules) + ["zz"], (2, 3))
            for length in (0, 1, 10):
                told = mend(grammar, ["zz"] * length, prices).costs()
                fruitful = [head for head in grammar.heads() if text != DEAD or head != "B"]
                self.assertEqual([cost[:3] for cost in told], [
                    (symbol, i, j) for symbol in sorted(fruitful + grammar.signs())
                    for i in range(length + 1) for j in range(i, length + 1)])
                self.assertEqual({type(part) for cost in told for part in cost[1:]}, {int})


class TestTheSame(Mending):

    def test_each_time(self):
        for text, row in ((SUMS, "n n ( )"), (TERMS, "f n , n"), (EMPTY, "b b"), ("S : a | b", "")):
            grammar = read_grammar(text)
            prices = dict.fromkeys(signs_of(grammar.rules), (1, 1))
            first = mend(grammar, row.split(), prices)
            for other in (first, mend(grammar, row.split(), prices), mended(text, row, dict(reversed(prices.items())))):
                self.assertEqual(other.price(), first.price())
                self.assertEqual(other.deeds(), first.deeds())
                self.assertEqual(other.mended(), first.mended())
                self.assertEqual(written(other.answer()), written(first.answer()))
                self.assertEqual(other.costs(), first.costs())

    def test_lists_that_are_told_are_the_askers_own(self):
        row, grammar = ["n", "n"], read_grammar(SUMS)
        told = mend(grammar, row, PRICES)
        spoil(self, told.deeds, told.mended, told.costs)
        self.goes_together(grammar, row, PRICES, told)

    def test_what_is_handed_in(self):
        row, prices, grammar = ["n", "n", "("], dict(PRICES), read_grammar(SUMS)
        told = mend(grammar, row, prices)
        self.assertEqual((row, prices), (["n", "n", "("], PRICES))
        row.append("n")
        prices["n"] = (20, 20)
        prices.pop("+")
        self.goes_together(grammar, ["n", "n", "("], PRICES, told)

    def test_what_else_stands_in_the_prices(self):
        more = dict(PRICES, m=None, E=(0, 0))
        more.update({0: 1, None: (), (): [], "": 0, "$": (21, 0), True: False})
        before = dict(more)
        told = mend(read_grammar(SUMS), ["n", "n"], more)
        self.assertEqual((told.price(), told.mended()), (1, ["n", "+", "n"]))
        self.assertEqual(more, before)

    def test_trees_are_trees_of_the_package(self):
        self.assertIs(type(mended("S : ~", "", {}).answer()), Node)


if __name__ == "__main__":
    unittest.main()
