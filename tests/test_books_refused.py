"""[42], [46], [47], [5], [6]: vast grammars and grammars that are not clean, and which refusal goes first."""

import unittest

from rulestable.books import (ahead_of, empties, empty_heads, first_row, first_signs, firsts, follow_signs, follows,
                              fruitful, least_sizes, live, need_clean, need_small, reached)
from rulestable.errors import Dead, Vast
from rulestable.grammartext import read_grammar
from tests.growing import count_of, go_down, row_of
from tests.refusing import Refusing
from tests.texts import BARE_FORTY, BARE_FORTY_ONE, FORTY, FORTY_ONE

TELLERS = (fruitful, empties, firsts, follows, need_small)


class TestTheEdge(Refusing):

    def test_a_size_of_40(self):
        grammar = read_grammar(FORTY)
        self.assertEqual(least_sizes(grammar), {"S": 40, "A": 21, "B": 5, "C": 8})
        self.assertIsNone(need_small(grammar))
        self.assertIsNone(need_clean(grammar))
        tree = fruitful(grammar)["S"]
        go_down(self, grammar.rules, "S", tree)
        self.assertEqual((count_of(tree), tree.size()), (40, 40))
        self.assertEqual(row_of(firsts(grammar)["S"]["b"])[0], "b")
        self.assertEqual(sorted(follows(grammar)), ["A", "B", "C", "S"])

    def test_a_size_of_41(self):
        grammar = read_grammar(FORTY_ONE)
        self.assertEqual(least_sizes(grammar), {"S": 41, "A": 21, "B": 5, "C": 9})
        for tell in TELLERS + (need_clean,):
            self.refuses(Vast, "head", "S", tell, grammar)

    def test_a_size_of_40_without_leaves(self):
        grammar = read_grammar(BARE_FORTY)
        self.assertIsNone(need_small(grammar))
        self.assertIsNone(need_clean(grammar))
        tree = empties(grammar)["S"]
        go_down(self, grammar.rules, "S", tree)
        self.assertEqual((count_of(tree), row_of(tree)), (40, []))
        self.assertEqual(fruitful(grammar)["S"].size(), 2)

    def test_a_size_of_41_without_leaves(self):
        grammar = read_grammar(BARE_FORTY_ONE)
        self.assertEqual(least_sizes(grammar), {"S": 2, "A": 37, "B": 21, "C": 5, "D": 1})
        for tell in TELLERS + (need_clean,):
            self.refuses(Vast, "head", "S", tell, grammar)

    def test_greater_trees_beside_small_ones_are_not_vast(self):
        grammar = read_grammar("S : A A A A | s\nA : B B B B\nB : C C C C\nC : c c c c")
        self.refuses(Vast, "head", "A", need_small, grammar)
        grammar = read_grammar("S : A A A A | s\nA : B B B B | s s\nB : C C C C\nC : c c c c")
        self.assertIsNone(need_small(grammar))
        self.assertEqual(fruitful(grammar)["A"].size(), 3)

    def test_a_tree_with_leaves_may_be_great_where_one_without_is_small(self):
        grammar = read_grammar("S : A A A A\nA : B B B B\nB : C C C C | ~\nC : c c c c")
        self.assertEqual(least_sizes(grammar), {"S": 21, "A": 5, "B": 1, "C": 5})
        self.assertIsNone(need_small(grammar))

    def test_barren_heads_are_not_vast(self):
        grammar = read_grammar("S : s\nA : A B B B\nB : B b b b")
        self.assertIsNone(need_small(grammar))
        self.assertEqual(sorted(fruitful(grammar)), ["S"])


class TestWhichHead(Refusing):

    def vast(self, head, text):
        for tell in TELLERS:
            self.refuses(Vast, "head", head, tell, read_grammar(text))

    def test_the_first_as_heads_are_told(self):
        self.vast("A", "S : A\nA : B b b b\nB : C C C C\nC : D D D D\nD : d d d")
        self.vast("B", "Z : D D D D\nD : C C C C\nC : B B B B\nB : Y Y Y Y\nY : E E E E\nE : e e e e")
        self.vast("M", "Z : M M\nM : N N N\nN : X X X X\nX : x x x x")

    def test_of_both_kinds_the_first_as_heads_are_told(self):
        bare = "\nE : F F F F\nF : G G G G\nG : ~"
        great = "\nH : I I I I\nI : i i i i"
        self.vast("B", "S : B | Z\nB : E E F | b\nZ : H H" + bare + great)
        self.vast("B", "S : B | Z\nZ : E E F | b\nB : H H" + bare + great)

    def test_heads_that_are_never_reached_count(self):
        self.vast("Far", "S : s\nFar : A A A\nA : B B B B\nB : b b b b")

    def test_the_order_of_rules_does_not_count(self):
        self.vast("A", "Z : A | z\nA : B B B\nB : C C C C\nC : c c c c")
        self.vast("A", "A : B B B\nZ : A | z\nB : C C C C\nC : c c c c")

    def test_vast_though_the_start_is_barren(self):
        self.vast("A", "S : S\nA : B B B\nB : C C C C\nC : c c c c")


class TestToldOfEveryGrammar(unittest.TestCase):

    def test_of_vast_ones(self):
        grammar = read_grammar(FORTY_ONE)
        self.assertEqual(first_signs(grammar), {"S": ["b"], "A": ["b"], "B": ["b"], "C": ["b"], "b": ["b"], "c": ["c"]})
        self.assertEqual(follow_signs(grammar), {"S": ["$"], "A": ["b"], "B": ["b", "c"], "C": ["$"]})
        self.assertEqual((empty_heads(grammar), live(grammar), sorted(reached(grammar))), ([], [0, 1, 2, 3], ["A", "B", "C", "S"]))
        grammar = read_grammar(BARE_FORTY_ONE)
        self.assertEqual(empty_heads(grammar), ["A", "B", "C", "D", "S"])
        self.assertEqual(first_signs(grammar), {"S": ["a"], "A": [], "B": [], "C": [], "D": [], "a": ["a"]})
        self.assertEqual(follow_signs(grammar), {head: ["$"] for head in "ABCDS"})
        self.assertEqual((live(grammar), reached(grammar)["A"]), ([0, 1, 2, 3, 4, 5], [(0, 0)]))

    def test_of_the_vastest(self):
        heads = "ABCDEFGH"
        rows = [f"{one} : {other} {other} {other} {other}" for one, other in zip(heads, heads[1:])] + ["H : h h h h"]
        grammar = read_grammar("\n".join(rows))
        size, sizes = 5, {}
        for head in reversed(heads):
            sizes[head], size = size, 1 + 4 * size
        self.assertEqual(least_sizes(grammar), sizes)
        self.assertEqual(follow_signs(grammar), {head: ["$"] if head == "A" else ["$", "h"] for head in heads})
        self.assertEqual(first_signs(grammar)["A"], ["h"])

    def test_ahead_of_needs_no_grammar(self):
        grammar = read_grammar(BARE_FORTY_ONE)
        self.assertEqual(ahead_of(first_signs(grammar), empty_heads(grammar), ["D", "S"], "$"), ["$", "a"])


class TestClean(Refusing):

    def dead(self, number, text):
        grammar = read_grammar(text)
        self.refuses(Dead, "number", number, need_clean, grammar)
        self.refuses(Dead, "number", number, first_row, grammar, [], "$")

    def test_clean_ones(self):
        for text in ("E : ~", "E : E E | a", "S : A b | ~\nA : a A | S", FORTY, BARE_FORTY):
            self.assertIsNone(need_clean(read_grammar(text)))
            self.assertEqual(first_row(read_grammar(text), [], "$"), ["$"])

    def test_the_least_number_of_a_rule_that_is_not_live(self):
        self.dead(0, "E : E")
        self.dead(0, "S : A S | S\nA : a")
        self.dead(0, "S : Bad | a\nBad : Bad b")
        self.dead(1, "S : a | Bad\nBad : Bad b")
        self.dead(2, "S : a | b\nFar : a | S\nS : c")
        self.dead(1, "S : a\nFar : Bad\nS : Bad a\nBad : Bad")
        self.dead(3, "S : a A | b\nA : a | A Bad\nBad : b Bad")

    def test_dead_goes_ahead_of_vast(self):
        vast = "\nA : B B B\nB : C C C C\nC : c c c c"
        self.dead(1, "S : A\nFar : a" + vast)
        self.dead(0, "S : S A" + vast)
        self.dead(1, "S : s" + vast)
        clean = read_grammar("S : A" + vast)
        self.refuses(Vast, "head", "A", need_clean, clean)
        self.refuses(Vast, "head", "A", first_row, clean, [], "$")
        self.refuses(Vast, "head", "A", first_row, clean, ["S", "c"], "c")

    def test_what_needs_no_clean_grammar(self):
        grammar = read_grammar("S : a | Bad\nBad : Bad b\nFar : S")
        for tell in TELLERS:
            tell(grammar)
        self.assertEqual(live(grammar), [0])

    def test_vast_alone_is_looked_for_where_trees_are_told(self):
        grammar = read_grammar("S : s | Bad\nBad : Bad\nA : B B B\nB : C C C C\nC : c c c c")
        for tell in TELLERS:
            self.refuses(Vast, "head", "A", tell, grammar)
        self.refuses(Dead, "number", 1, need_clean, grammar)

    def test_what_is_refused_changes_nothing(self):
        grammar = read_grammar(FORTY_ONE)
        before = (grammar.rules, grammar.ranks, least_sizes(grammar), first_signs(grammar), follow_signs(grammar))
        for tell in TELLERS + (need_clean,):
            for turn in range(2):
                self.refuses(Vast, "head", "S", tell, grammar)
        self.assertEqual((grammar.rules, grammar.ranks, least_sizes(grammar), first_signs(grammar), follow_signs(grammar)), before)


if __name__ == "__main__":
    unittest.main()
