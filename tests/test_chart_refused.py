"""[53]: what charts are refused: vast grammars, and behind them what is no row of at most ten signs."""

import unittest

from rulestable.chart import Chart, goes_on, is_closed_chart, tree_for, two_trees
from rulestable.errors import NoRow, Vast
from rulestable.grammartext import read_grammar
from tests.growing import row_of
from tests.refusing import Refusing
from tests.texts import BARE_FORTY_ONE, FORTY, FORTY_ONE
from tests.things import no_rows

GOOD = "S : S a | a | ~"


def closed_of_nothing(grammar, row):
    return is_closed_chart(grammar, row, [])


def closed_of_something(grammar, row):
    return is_closed_chart(grammar, row, [("S", 0, 0)])


ASKERS = (Chart, closed_of_nothing, closed_of_something, tree_for, two_trees, goes_on)


class TestRows(Refusing):

    def test_things_that_are_none(self):
        grammar = read_grammar(GOOD)
        for ask in ASKERS:
            for thing in no_rows(10):
                self.refuses(NoRow, "found", thing, ask, grammar, thing)

    def test_ten_signs_and_eleven(self):
        grammar = read_grammar(GOOD)
        for ask in ASKERS:
            ask(grammar, ["a"] * 10)
            eleven = ["a"] * 11
            self.refuses(NoRow, "found", eleven, ask, grammar, eleven)

    def test_no_signs_and_signs_that_no_rule_has(self):
        grammar = read_grammar(GOOD)
        self.assertEqual(Chart(grammar, []).tells(), [("S", 0, 0)])
        for row in (["zz"], ["a", "zz"], ["aaaaaa", "+", "0"], ["zz"] * 10):
            for ask in ASKERS:
                ask(grammar, row)
            self.assertIsNone(tree_for(grammar, row))
            self.assertIsNone(two_trees(grammar, row))
            self.assertIsNone(goes_on(grammar, row))

    def test_grammars_with_rules_that_are_not_live(self):
        for text in ("S : a | B\nB : B b", "S : a\nD : a", "S : S a\nA : a"):
            for ask in ASKERS:
                ask(read_grammar(text), ["a"])
                self.refuses(NoRow, "found", None, ask, read_grammar(text), None)
        self.assertEqual(Chart(read_grammar("S : S a\nA : a"), ["a"]).tells(), [("A", 0, 1)])


class TestVastOnes(Refusing):

    def test_a_size_of_40(self):
        grammar = read_grammar(FORTY)
        for ask in ASKERS:
            ask(grammar, ["b"] * 10)
        self.assertEqual(len(goes_on(grammar, [])), 30)
        self.assertEqual(row_of(Chart(grammar, ["b"] * 10).grown("B", 3, 7)), ["b"] * 4)

    def test_a_size_of_41(self):
        for text in (FORTY_ONE, BARE_FORTY_ONE):
            for ask in ASKERS:
                self.refuses(Vast, "head", "S", ask, read_grammar(text), ["b"])
                self.refuses(Vast, "head", "S", ask, read_grammar(text), [])

    def test_the_first_as_heads_are_told(self):
        grammar = read_grammar("Z : M M\nM : N N N\nN : X X X X\nX : x x x x")
        for ask in ASKERS:
            self.refuses(Vast, "head", "M", ask, grammar, ["x"])

    def test_where_the_start_is_barren_or_the_head_never_reached(self):
        for text in ("S : S\nA : B B B\nB : C C C C\nC : c c c c", "S : s\nA : B B B\nB : C C C C\nC : c c c c"):
            for ask in ASKERS:
                self.refuses(Vast, "head", "A", ask, read_grammar(text), ["c"])

    def test_ahead_of_rows_that_are_none(self):
        for text in (FORTY_ONE, BARE_FORTY_ONE):
            grammar = read_grammar(text)
            for ask in ASKERS:
                for thing in (None, 0, True, "a", (), {}, ["a"] * 11, ["S"], [None]):
                    self.refuses(Vast, "head", "S", ask, grammar, thing)


if __name__ == "__main__":
    unittest.main()
