"""[51] to [57]: spans, their smallest trees, closed lists, and what a row has by all its trees."""

import unittest

from rulestable.chart import Chart, goes_on, is_closed_chart, tree_for, two_trees
from rulestable.grammar import Grammar
from rulestable.grammartext import read_grammar
from rulestable.trees import Leaf
from tests.growing import count_of, go_down, row_of, written
from tests.texts import SUMS

# A and B may be empty, C is barren, D is never reached, and no tree of the start has a z.
MIXED = "S : A b B | C\nA : a | ~\nB : B B | A\nC : C a\nD : z A"
TEN = ["a"] * 10


class TestSpans(unittest.TestCase):

    def test_of_heads(self):
        chart = Chart(read_grammar(SUMS), ["n", "+", "(", "n", ")"])
        self.assertEqual(chart.tells(), [("E", 0, 1), ("E", 0, 5), ("E", 2, 5), ("E", 3, 4)])
        for i in range(-2, 8):
            for j in range(-2, 8):
                self.assertIs(chart.has("E", i, j), ("E", i, j) in chart.tells())

    def test_of_signs(self):
        row = ["n", "+", "(", "n", ")"]
        chart = Chart(read_grammar(SUMS), row)
        for sign in row + ["zz", "b"]:
            for i in range(-7, 8):
                for j in range(-7, 8):
                    wanted = 0 <= i < 5 and j == i + 1 and row[i] == sign
                    self.assertIs(chart.has(sign, i, j), wanted)
                    self.assertIs(chart.grown(sign, i, j) is not None, wanted)

    def test_of_a_sign_that_no_rule_has(self):
        chart = Chart(read_grammar(SUMS), ["n", "zz", "n"])
        self.assertIs(chart.has("zz", 1, 2), True)
        self.assertEqual(written(chart.grown("zz", 1, 2)), "zz")
        self.assertEqual(chart.tells(), [("E", 0, 1), ("E", 2, 3)])

    def test_of_no_signs(self):
        chart = Chart(read_grammar(MIXED), ["b"])
        self.assertEqual(chart.tells(), [("A", 0, 0), ("A", 1, 1), ("B", 0, 0), ("B", 1, 1), ("S", 0, 1)])
        self.assertIs(chart.has("A", 1, 1), True)
        self.assertIs(chart.has("A", 2, 2), False)
        self.assertIs(chart.has("A", -1, -1), False)
        self.assertIs(chart.has("b", 0, 0), False)
        self.assertIs(chart.has("b", 1, 1), False)

    def test_in_a_row_without_signs(self):
        chart = Chart(read_grammar(MIXED), [])
        self.assertEqual(chart.tells(), [("A", 0, 0), ("B", 0, 0)])
        self.assertIs(chart.has("S", 0, 0), False)
        self.assertEqual(Chart(read_grammar(SUMS), []).tells(), [])

    def test_of_heads_that_are_never_reached_and_of_barren_ones(self):
        chart = Chart(read_grammar(MIXED), ["z", "a"])
        told = [key for key in chart.tells() if key[0] == "D"]
        self.assertEqual(told, [("D", 0, 1), ("D", 0, 2)])
        self.assertEqual([key for key in chart.tells() if key[0] in "CS"], [])

    def test_backwards(self):
        chart = Chart(read_grammar("S : a | ~ | S S"), ["a", "a"])
        self.assertEqual(chart.tells(), [("S", 0, 0), ("S", 0, 1), ("S", 0, 2), ("S", 1, 1), ("S", 1, 2), ("S", 2, 2)])
        for i, j in ((1, 0), (2, 0), (2, 1)):
            self.assertIs(chart.has("S", i, j), False)
            self.assertIsNone(chart.grown("S", i, j))

    def test_of_any_text_and_any_whole_numbers(self):
        chart = Chart(read_grammar(SUMS), ["n"])
        for text in ("", "$", " ", "Z", "EE", "E ", "~", ":", "n n", "zz", "Ee", "\n"):
            for i in (-10 ** 30, -1, 0, 1, 10 ** 30):
                for j in (-10 ** 30, -1, 0, 1, 10 ** 30):
                    self.assertIs(chart.has(text, i, j), False)
                    self.assertIsNone(chart.grown(text, i, j))
        for symbol in ("E", "n"):
            for i in (-10 ** 30, -1, 0, 1, 2, 10 ** 30):
                for j in (-10 ** 30, -1, 0, 1, 2, 10 ** 30):
                    self.assertIs(chart.has(symbol, i, j), (i, j) == (0, 1))

    def test_of_ten_signs(self):
        chart = Chart(read_grammar("S : S S | a"), TEN)
        self.assertEqual(chart.tells(), [("S", i, j) for i in range(11) for j in range(i + 1, 11)])
        chart = Chart(read_grammar("S : a S a | ~"), TEN)
        self.assertEqual(chart.tells(), [("S", i, j) for i in range(11) for j in range(i, 11) if (j - i) % 2 == 0])

    def test_heads_rise_as_texts(self):
        chart = Chart(read_grammar("Z : a\nA9 : Z\nAa : Z\nA : Z"), ["a"])
        self.assertEqual(chart.tells(), [("A", 0, 1), ("A9", 0, 1), ("Aa", 0, 1), ("Z", 0, 1)])


class TestSmallestTrees(unittest.TestCase):

    def grown(self, text, row, symbol, i, j):
        grammar = read_grammar(text)
        tree = Chart(grammar, row).grown(symbol, i, j)
        go_down(self, grammar.rules, symbol, tree)
        self.assertEqual(row_of(tree), row[i:j])
        return tree

    def test_the_only_one(self):
        self.assertEqual(written(self.grown(SUMS, ["n", "+", "n"], "E", 0, 3)), (0, (2, "n"), "+", (2, "n")))
        self.assertEqual(written(self.grown(SUMS, ["n", "+", "n"], "E", 2, 3)), (2, "n"))

    def test_of_a_sign(self):
        tree = self.grown(SUMS, ["n", "+", "n"], "+", 1, 2)
        self.assertIs(type(tree), Leaf)

    def test_without_leaves(self):
        self.assertEqual(written(self.grown("S : A A\nA : B B | ~\nB : ~", [], "S", 0, 0)), (0, (2,), (2,)))
        self.assertEqual(written(self.grown("S : A A | A B a\nA : B B | ~\nB : ~", ["a"], "S", 1, 1)), (0, (3,), (3,)))

    def test_the_smallest_by_size_not_by_depth(self):
        # The rule 0 makes the flatter tree, rule 2 and what stands below it the smaller one.
        text = "S : A A A A | a a a | B\nA : a | ~\nB : C\nC : a a"
        self.assertEqual(written(self.grown(text, ["a", "a"], "S", 0, 2)), (2, (5, (6, "a", "a"))))
        self.assertEqual(written(self.grown(text, ["a", "a", "a"], "S", 0, 3)), (1, "a", "a", "a"))
        self.assertEqual(self.grown(text, ["a"] * 4, "S", 0, 4).size(), 9)

    def test_a_great_empty_part_is_gone_round(self):
        text = "S : A b | B b\nA : C C C C\nB : D\nC : ~\nD : F\nF : ~"
        self.assertEqual(self.grown(text, ["b"], "S", 0, 1).size(), 5)

    def test_loops(self):
        self.assertEqual(written(self.grown("S : S | S S | a | ~", ["a"], "S", 0, 1)), (2, "a"))
        self.assertEqual(written(self.grown("S : A | a\nA : S", ["a"], "A", 0, 1)), (2, (1, "a")))
        self.assertEqual(written(self.grown("S : S | S S | a | ~", ["a"], "S", 1, 1)), (3,))

    def test_greater_than_what_makes_a_grammar_vast(self):
        # A has a tree of the size 17 without leaves, S one of the size 2.
        text = "S : S S | A b A | a\nA : B B B B | a\nB : C C C\nC : ~"
        for count in range(1, 11):
            self.assertEqual(self.grown(text, ["b"] * count, "S", 0, count).size(), 36 * count + count - 1)

    def test_ten_signs(self):
        tree = self.grown("S : S S | a", TEN, "S", 0, 10)
        self.assertEqual(tree.size(), 29)
        tree = self.grown("S : S S S S | S S | a", TEN, "S", 0, 10)
        self.assertEqual(tree.size(), 23)


class TestClosedLists(unittest.TestCase):

    def closed(self, text, row, triples, wanted):
        self.assertIs(is_closed_chart(read_grammar(text), row, triples), wanted)

    def test_the_spans_of_a_chart(self):
        row = ["n", "+", "n"]
        spans = [("E", 0, 1), ("E", 0, 3), ("E", 2, 3)]
        self.closed(SUMS, row, spans, True)
        self.closed(SUMS, row, spans[::-1] + spans, True)
        for span in spans:
            self.closed(SUMS, row, [other for other in spans if other != span], False)

    def test_others_that_lead_to_no_more(self):
        row = ["n", "+", "n"]
        spans = [("E", 0, 1), ("E", 0, 3), ("E", 2, 3)]
        for other in (("E", 1, 2), ("E", 0, 2), ("E", 1, 3), ("Z", 0, 1), ("n", 0, 2), ("+", 0, 3), ("", 0, 0), ("$", 1, 1)):
            self.closed(SUMS, row, spans + [other], True)

    def test_others_that_lead_to_more(self):
        row = ["n", "+", "n", "+", "n"]
        spans = [("E", 0, 1), ("E", 0, 3), ("E", 0, 5), ("E", 2, 3), ("E", 2, 5), ("E", 4, 5)]
        self.closed(SUMS, row, spans, True)
        self.closed(SUMS, row, spans + [("E", 1, 3)], False)
        self.closed(SUMS, row, spans + [("E", 1, 3), ("E", 1, 5)], True)

    def test_beyond_the_row_and_backwards(self):
        row = ["a"]
        spans = [("S", 0, 1), ("A", 0, 1)]
        text = "S : A A | A | S A | A a\nA : a"
        self.closed(text, row, spans, True)
        for other in (("A", -1, 0), ("A", 1, 2), ("A", 0, 2), ("A", -1, 1), ("A", 2, 2), ("A", -1, -1), ("A", 1, 0),
                      ("A", -10 ** 30, 1), ("A", 0, 10 ** 30), ("S", 1, 0), ("S", -1, 2)):
            self.closed(text, row, spans + [other], True)
        for other in (("A", 0, 0), ("A", 1, 1)):
            self.closed(text, row, spans + [other], False)

    def test_a_sign_goes_where_it_stands_alone(self):
        text = "S : A a | a\nA : b"
        self.closed(text, ["b", "a"], [("A", 0, 1), ("S", 0, 2), ("S", 1, 2)], True)
        self.closed(text, ["b", "b"], [("A", 0, 1), ("A", 1, 2), ("a", 1, 2), ("a", 0, 1), ("a", 2, 2)], True)
        self.closed(text, ["b"], [("A", 0, 1), ("a", 1, 2), ("a", 1, 1)], True)

    def test_rules_without_symbols_go_from_each_place(self):
        self.closed("S : ~", ["a", "b"], [("S", 0, 0), ("S", 1, 1), ("S", 2, 2)], True)
        for place in range(3):
            self.closed("S : ~", ["a", "b"], [("S", other, other) for other in range(3) if other != place], False)
        self.closed("S : ~", [], [("S", 0, 0)], True)
        self.closed("S : ~", [], [], False)

    def test_a_row_without_signs(self):
        self.closed("S : a S | b", [], [], True)
        self.closed("S : a S | S S", [], [("S", 0, 0)], True)
        self.closed("S : A\nA : a", [], [("A", 0, 0)], False)

    def test_barren_and_unreached_heads(self):
        self.closed("S : a\nB : B\nD : a", ["a"], [("S", 0, 1)], False)
        self.closed("S : a\nB : B\nD : a", ["a"], [("S", 0, 1), ("D", 0, 1)], True)
        self.closed("S : a\nB : B\nD : B a", ["a"], [("S", 0, 1), ("B", 0, 0)], False)
        self.closed("S : a\nB : B\nD : B a", ["a"], [("S", 0, 1), ("B", 0, 0), ("D", 0, 1)], True)

    def test_ten_signs(self):
        grammar = read_grammar("S : S S | a | ~")
        spans = [("S", i, j) for i in range(11) for j in range(i, 11)]
        self.assertEqual(Chart(grammar, TEN).tells(), spans)
        self.assertIs(is_closed_chart(grammar, TEN, spans), True)
        self.assertIs(is_closed_chart(grammar, TEN, spans[:-1]), False)
        self.assertIs(is_closed_chart(grammar, TEN, spans[1:]), False)


class TestTrees(unittest.TestCase):

    def test_let_by(self):
        grammar = read_grammar(SUMS)
        tree = tree_for(grammar, ["(", "n", "+", "n", ")"])
        self.assertEqual(written(tree), (1, "(", (0, (2, "n"), "+", (2, "n")), ")"))

    def test_not_let_by(self):
        grammar = read_grammar(SUMS)
        for row in ([], ["+"], ["n", "n"], ["n", "+"], ["(", "n"], ["n", ")"], ["zz"], ["n", "+", "zz"]):
            self.assertIsNone(tree_for(grammar, row))

    def test_of_the_start_alone(self):
        grammar = read_grammar(MIXED)
        self.assertIsNone(tree_for(grammar, ["a"]))
        self.assertIsNone(tree_for(grammar, ["z"]))
        self.assertEqual(row_of(tree_for(grammar, ["a", "b", "a"])), ["a", "b", "a"])

    def test_a_row_without_signs(self):
        self.assertEqual(written(tree_for(read_grammar("S : S a | ~"), [])), (1,))
        self.assertIsNone(tree_for(read_grammar("S : S a | a"), []))

    def test_a_barren_start(self):
        for row in ([], ["a"], ["a", "a"]):
            self.assertIsNone(tree_for(read_grammar("S : S a\nA : a"), row))

    def test_ten_signs(self):
        self.assertEqual(tree_for(read_grammar("S : a S | ~"), TEN).size(), 21)


class TestTwoTrees(unittest.TestCase):

    def two(self, text, row):
        grammar = read_grammar(text)
        told = two_trees(grammar, row)
        self.assertIs(type(told), tuple)
        self.assertEqual(len(told), 2)
        for tree in told:
            go_down(self, grammar.rules, grammar.start, tree)
            self.assertEqual(row_of(tree), row)
        self.assertNotEqual(written(told[0]), written(told[1]))
        return told

    def none(self, text, row):
        self.assertIsNone(two_trees(read_grammar(text), row))

    def test_two(self):
        told = self.two(SUMS, ["n", "+", "n", "+", "n"])
        left = (0, (0, (2, "n"), "+", (2, "n")), "+", (2, "n"))
        right = (0, (2, "n"), "+", (0, (2, "n"), "+", (2, "n")))
        self.assertEqual(sorted(map(repr, map(written, told))), sorted(map(repr, [left, right])))

    def test_one(self):
        self.none(SUMS, ["n", "+", "n"])
        self.none(SUMS, ["(", "n", "+", "n", ")"])
        self.none("S : a S | ~", TEN)

    def test_none(self):
        self.none(SUMS, ["n", "+"])
        self.none(SUMS, [])
        self.none(SUMS, ["zz"])
        self.none("S : S a | S S", ["a"])

    def test_by_two_rules(self):
        self.two("S : A | B\nA : a\nB : a", ["a"])
        self.two("S : a A | A a\nA : a", ["a", "a"])

    def test_by_one_rule_cut_otherwise(self):
        self.two("S : A A\nA : a | a a", ["a", "a", "a"])
        self.none("S : A A\nA : a | a a", ["a", "a"])
        self.none("S : A b A\nA : a | b", ["b", "b", "b"])
        self.two("S : A b A\nA : b | ~", ["b", "b"])

    def test_deep_below(self):
        self.two("S : ( S ) | [ T ]\nT : A b | b A\nA : b", ["(", "(", "[", "b", "b", "]", ")", ")"])
        self.none("S : ( S ) | [ T ]\nT : A b | b A b\nA : b", ["(", "(", "[", "b", "b", "]", ")", ")"])

    def test_to_the_right_of_what_is_built_up_alike(self):
        self.two("S : T U\nT : a a\nU : A | B\nA : a\nB : a", ["a", "a", "a"])
        self.two("S : U T\nT : a a\nU : A | B\nA : a\nB : a", ["a", "a", "a"])

    def test_without_end(self):
        self.two("S : S | a", ["a"])
        self.two("S : A | a\nA : S", ["a"])
        self.two("S : S S | ~", [])
        self.two("S : S A | a\nA : ~", ["a"])
        self.two("S : a | A S\nA : A A | ~", ["a"])

    def test_beside_two_that_are_never_reached(self):
        self.none("S : a\nA : B | C\nB : a\nC : a", ["a"])
        self.none("S : a b | A b b\nA : B | C\nB : a\nC : a", ["a", "b"])
        self.two("S : a b | A b b\nA : B | C\nB : a\nC : a", ["a", "b", "b"])

    def test_two_of_one_part_that_stands_twice(self):
        self.two("S : A A\nA : B | C\nB : ~\nC : ~", [])
        self.none("S : A A\nA : B\nB : ~", [])

    def test_ten_signs(self):
        self.two("S : S S | a", TEN)
        self.two("S : S S S S | S S | S | a | ~", TEN)
        self.none("S : a S a | ~", TEN)


class TestGoesOn(unittest.TestCase):

    def on(self, text, row, *wanted):
        told = goes_on(read_grammar(text), row)
        self.assertIs(type(told), list)
        self.assertIn(told, [list(answer) for answer in wanted])

    def none(self, text, row):
        self.assertIsNone(goes_on(read_grammar(text), row))

    def test_by_the_shortest_row(self):
        self.on(SUMS, [], ["n"])
        self.on(SUMS, ["n", "+"], ["n"])
        self.on(SUMS, ["("], ["n", ")"])
        self.on(SUMS, ["n", "+", "(", "(", "n"], [")", ")"])
        self.on(SUMS, ["n", "+", "(", "(", "n", "+"], ["n", ")", ")"])

    def test_by_no_signs_where_it_is_let_by(self):
        self.on(SUMS, ["n"], [])
        self.on(SUMS, ["n", "+", "n"], [])
        self.on("S : S a | ~", [], [])
        self.on("S : a S a | ~", TEN, [])

    def test_by_none(self):
        self.none(SUMS, ["+"])
        self.none(SUMS, ["n", "n"])
        self.none(SUMS, ["zz"])
        self.none(SUMS, ["n", "+", "zz"])
        self.none(SUMS, ["n", ")"])
        self.none("S : a b | b", ["b", "b"])

    def test_a_barren_start_or_body(self):
        self.none("S : S a\nA : a", [])
        self.none("S : S a\nA : a", ["a"])
        self.none("S : a B | b\nB : B b", ["a"])
        self.on("S : a B | a a a b\nB : B b", ["a"], ["a", "a", "b"])

    def test_by_few_signs_not_by_small_trees(self):
        # The smallest tree goes on by two signs; a greater one by one sign.
        text = "S : a T\nT : b b | A\nA : B\nB : C\nC : c"
        self.on(text, ["a"], ["c"])
        self.on(text, [], ["a", "c"])
        self.on("S : a T U\nT : t | D D D D\nD : ~\nU : u", ["a"], ["u"])

    def test_by_more_than_one_way(self):
        self.on("S : a b c | a c b", ["a"], ["b", "c"], ["c", "b"])
        self.on("S : a b c d | a c", ["a"], ["c"])
        self.on("S : a b c d | a c", ["a", "b"], ["c", "d"])

    def test_where_symbols_may_be_empty(self):
        self.on("S : A B c | d\nA : a | ~\nB : b | ~", [], ["c"], ["d"])
        self.on("S : A B c | d\nA : a | ~\nB : b | ~", ["a"], ["c"])
        self.on("S : A B c | d\nA : a | ~\nB : b | ~", ["b"], ["c"])
        self.on("S : A b B\nA : a | ~\nB : b b | ~", ["b"], [])
        self.on("S : A b B\nA : a | ~\nB : b b | ~", ["b", "b"], ["b"])

    def test_left_and_right(self):
        self.on("S : S a b | b", ["b", "a"], ["b"])
        self.on("S : S a b | b", ["b", "a", "b", "a"], ["b"])
        self.on("S : a S b | ~", ["a", "a", "a", "b"], ["b", "b"])

    def test_by_more_than_ten_signs(self):
        self.on("S : a S b b | c", ["a"] * 10, ["c"] + ["b"] * 20)
        self.on("S : a T T\nT : b b b b", ["a"], ["b"] * 8)
        self.on("S : T T T T\nT : b b b b", [], ["b"] * 16)
        self.on("S : T T T T\nT : b b b b", ["b"] * 10, ["b"] * 6)

    def test_far_beyond(self):
        text = "S : a S T T | c\nT : U U U U\nU : b b b b"
        self.on(text, ["a"] * 10, ["c"] + ["b"] * 320)


class TestNothingChanges(unittest.TestCase):

    def test_a_row_that_is_changed_later(self):
        grammar = read_grammar(SUMS)
        row = ["n", "+", "n"]
        chart = Chart(grammar, row)
        row[1] = "n"
        row.append("+")
        self.assertEqual(chart.tells(), [("E", 0, 1), ("E", 0, 3), ("E", 2, 3)])
        self.assertIs(chart.has("+", 1, 2), True)
        self.assertIs(chart.has("n", 1, 2), False)
        self.assertEqual(written(chart.grown("E", 0, 3)), (0, (2, "n"), "+", (2, "n")))

    def test_what_is_handed_in(self):
        grammar = read_grammar(SUMS)
        row, triples = ["n", "+", "n"], [("E", 2, 3), ("E", 0, 1), ("E", 0, 3), ("E", 0, 1)]
        for tell in (Chart, tree_for, two_trees, goes_on):
            tell(grammar, row)
        is_closed_chart(grammar, row, triples)
        is_closed_chart(grammar, row, triples[:2])
        self.assertEqual(row, ["n", "+", "n"])
        self.assertEqual(triples, [("E", 2, 3), ("E", 0, 1), ("E", 0, 3), ("E", 0, 1)])
        self.assertEqual(grammar.rules, read_grammar(SUMS).rules)

    def test_lists_told_are_the_askers_own(self):
        grammar = read_grammar(SUMS)
        chart = Chart(grammar, ["n"])
        chart.tells().append(("E", 0, 0))
        chart.tells().clear()
        self.assertEqual(chart.tells(), [("E", 0, 1)])
        self.assertIsNot(chart.tells(), chart.tells())
        told = goes_on(grammar, ["n", "+"])
        told.append("n")
        self.assertEqual(goes_on(grammar, ["n", "+"]), ["n"])
        self.assertIs(chart.has("E", 0, 0), False)

    def test_the_same_answer_each_time(self):
        grammar = read_grammar("S : S S S | S S | A | a\nA : a | S A | ~")
        other = Grammar(list(grammar.rules))
        for row in ([], ["a"], ["a"] * 5):
            for tell in (tree_for, two_trees):
                answers = [tell(given, list(row)) for given in (grammar, other, grammar)]
                shown = [written(answer) if tell is tree_for else tuple(map(written, answer)) for answer in answers]
                self.assertEqual(shown[0], shown[1])
                self.assertEqual(shown[0], shown[2])
            self.assertEqual(goes_on(grammar, row), goes_on(other, row))
            one, two = Chart(grammar, row), Chart(other, row)
            self.assertEqual(one.tells(), two.tells())
            for key in one.tells():
                self.assertEqual(written(one.grown(*key)), written(two.grown(*key)))
                self.assertEqual(written(one.grown(*key)), written(one.grown(*key)))
                self.assertEqual(count_of(one.grown(*key)), one.grown(*key).size())


if __name__ == "__main__":
    unittest.main()
