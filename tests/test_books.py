"""[41], [43], [44], [45], [47], [6]: the books of grammars, worked by hand."""

import unittest

from rulestable.books import (ahead_of, empties, empty_heads, first_row, first_signs, firsts, follow_signs, follows,
                              fruitful, least_sizes, live, reached)
from rulestable.grammar import Grammar
from rulestable.grammartext import read_grammar
from tests.growing import behind_path, count_of, go_down, part_at, row_of, written

SUMS = read_grammar("E : T Rest\nRest : + T Rest | ~\nT : n | ( E )")
# Bad is barren, Far is never reached; the rules 3, 4, 5, 7 and 8 are not live.
MIXED = read_grammar("S : A b B | B | ~ | Bad a\nBad : Bad x | y Bad\nA : a A\nFar : S z | far\nA : ~\nB : A A | c")
# The least trees are not those without leaves.
LEAFLESS = read_grammar("S : a | B B B\nB : C C | b\nC : ~")


class TestSizes(unittest.TestCase):

    def test_least_sizes(self):
        self.assertEqual(least_sizes(SUMS), {"E": 4, "Rest": 1, "T": 2})
        self.assertEqual(least_sizes(MIXED), {"S": 1, "A": 1, "Far": 2, "B": 2})
        self.assertEqual(least_sizes(LEAFLESS), {"S": 2, "B": 2, "C": 1})

    def test_the_least_of_several_rules_wherever_it_stands(self):
        self.assertEqual(least_sizes(read_grammar("E : a b c d | a b | a b c")), {"E": 3})
        self.assertEqual(least_sizes(read_grammar("E : F F | a a a a\nF : G\nG : H\nH : ~")), {"E": 5, "F": 3, "G": 2, "H": 1})
        self.assertEqual(least_sizes(read_grammar("E : F F F | a a a a\nF : G\nG : H\nH : ~")), {"E": 5, "F": 3, "G": 2, "H": 1})

    def test_what_is_found_late_is_handed_on(self):
        grammar = read_grammar("A : B | a a a a\nB : C | b b b b\nC : D | c c c c\nD : d d d d | E\nE : ~")
        self.assertEqual(least_sizes(grammar), {"A": 5, "B": 4, "C": 3, "D": 2, "E": 1})

    def test_barren_heads_have_none(self):
        self.assertEqual(least_sizes(read_grammar("E : E")), {})
        self.assertEqual(least_sizes(read_grammar("E : a F\nF : E E")), {})
        self.assertEqual(least_sizes(read_grammar("E : a F | b\nF : F F\nG : F | E")), {"E": 2, "G": 3})

    def test_empty_heads(self):
        self.assertEqual(empty_heads(SUMS), ["Rest"])
        self.assertEqual(empty_heads(MIXED), ["A", "B", "S"])
        self.assertEqual(empty_heads(LEAFLESS), ["B", "C", "S"])
        self.assertEqual(empty_heads(read_grammar("E : E | a E | E a")), [])
        self.assertEqual(empty_heads(read_grammar("E : F G\nF : ~\nG : H\nH : a | H")), ["F"])
        self.assertEqual(empty_heads(read_grammar("Z : Y X\nY : X X\nX : ~")), ["X", "Y", "Z"])

    def test_smallest_trees(self):
        told = fruitful(MIXED)
        self.assertEqual({head: written(told[head]) for head in told},
                         {"S": (2,), "A": (9,), "B": (11, "c"), "Far": (8, "far")})

    def test_smallest_trees_of_the_only_rules(self):
        told = fruitful(SUMS)
        self.assertEqual({head: written(told[head]) for head in told}, {"E": (0, (3, "n"), (2,)), "T": (3, "n"), "Rest": (2,)})

    def test_smallest_trees_without_leaves(self):
        told = empties(LEAFLESS)
        self.assertEqual({head: written(told[head]) for head in told},
                         {"C": (4,), "B": (2, (4,), (4,)), "S": (1,) + ((2, (4,), (4,)),) * 3})
        self.assertEqual({head: written(tree) for head, tree in fruitful(LEAFLESS).items()},
                         {"C": (4,), "B": (3, "b"), "S": (0, "a")})
        self.assertEqual(empties(read_grammar("E : a")), {})
        told = empties(read_grammar("E : F F | G\nF : ~\nG : H\nH : ~"))
        self.assertIn(written(told["E"]), ((0, (2,), (2,)), (1, (3, (4,)))))

    def test_a_grammar_without_trees(self):
        grammar = read_grammar("E : E | a E")
        self.assertEqual((least_sizes(grammar), empty_heads(grammar), fruitful(grammar), empties(grammar)), ({}, [], {}, {}))
        self.assertEqual((reached(grammar), live(grammar), follow_signs(grammar), follows(grammar)), ({}, [], {}, {}))
        self.assertEqual(first_signs(grammar), {"E": [], "a": ["a"]})
        told = firsts(grammar)
        self.assertEqual((told["E"], list(told["a"]), written(told["a"]["a"]), sorted(told)), ({}, ["a"], "a", ["E", "a"]))


class TestFirst(unittest.TestCase):

    def test_signs(self):
        self.assertEqual(first_signs(SUMS), {"E": ["(", "n"], "Rest": ["+"], "T": ["(", "n"], "n": ["n"], "+": ["+"],
                                             "(": ["("], ")": [")"]})

    def test_past_what_may_be_empty_and_not_through_what_is_barren(self):
        self.assertEqual(first_signs(MIXED), {
            "S": ["a", "b", "c"], "Bad": [], "A": ["a"], "B": ["a", "c"], "Far": ["a", "b", "c", "far", "z"],
            "a": ["a"], "b": ["b"], "c": ["c"], "x": ["x"], "y": ["y"], "z": ["z"], "far": ["far"]})

    def test_a_rule_with_a_barren_head_behind_begins_nothing(self):
        self.assertEqual(first_signs(read_grammar("E : a Bad | b\nBad : c Bad"))["E"], ["b"])

    def test_a_head_ahead_of_itself(self):
        self.assertEqual(first_signs(read_grammar("E : E a | ~"))["E"], ["a"])
        self.assertEqual(first_signs(read_grammar("E : E a | b"))["E"], ["b"])
        self.assertEqual(first_signs(read_grammar("E : F E a | b\nF : E | ~ | c"))["E"], ["b", "c"])

    def test_behind_four_symbols(self):
        grammar = read_grammar("S : A B A a | A A A B\nA : ~ | +\nB : ~ | -")
        self.assertEqual(first_signs(grammar)["S"], ["+", "-", "a"])

    def test_rising_as_texts(self):
        grammar = read_grammar("E : b | 10 | 9 | & | aa | a | ! | z | <")
        self.assertEqual(first_signs(grammar)["E"], ["!", "&", "10", "9", "<", "a", "aa", "b", "z"])

    def test_no_signs_at_all(self):
        self.assertEqual(first_signs(read_grammar("E : ~ | E E")), {"E": []})
        self.assertEqual(firsts(read_grammar("E : ~ | E E")), {"E": {}})

    def check(self, grammar):
        signs, trees = first_signs(grammar), firsts(grammar)
        self.assertEqual(sorted(trees), sorted(grammar.heads() + grammar.signs()))
        self.assertEqual({symbol: sorted(trees[symbol]) for symbol in trees}, signs)
        for symbol in trees:
            for sign, tree in trees[symbol].items():
                go_down(self, grammar.rules, symbol, tree)
                self.assertEqual(row_of(tree)[0], sign)

    def test_trees(self):
        for grammar in (SUMS, MIXED, LEAFLESS):
            self.check(grammar)
        for text in ("E : F E a | b\nF : E | ~ | c", "S : A B A a | A A A B\nA : ~ | +\nB : ~ | -", "E : E a | ~"):
            self.check(read_grammar(text))


class TestFollow(unittest.TestCase):

    def test_signs(self):
        self.assertEqual(follow_signs(SUMS), {"E": ["$", ")"], "Rest": ["$", ")"], "T": ["$", ")", "+"]})

    def test_only_reached_heads_by_live_rules(self):
        self.assertEqual(follow_signs(MIXED), {"S": ["$"], "A": ["$", "a", "b"], "B": ["$"]})

    def test_the_end_mark_stands_among_signs_as_texts_do(self):
        grammar = read_grammar("E : E ! | E & | E 1 | n")
        self.assertEqual(follow_signs(grammar)["E"], ["!", "$", "&", "1"])

    def test_past_what_may_be_empty(self):
        grammar = read_grammar("S : A B C d | A\nA : a\nB : b | ~\nC : c | ~")
        self.assertEqual(follow_signs(grammar), {"S": ["$"], "A": ["$", "b", "c", "d"], "B": ["c", "d"], "C": ["d"]})

    def test_no_end_mark_behind_what_never_stands_last(self):
        self.assertEqual(follow_signs(read_grammar("S : A b\nA : a"))["A"], ["b"])

    def test_handed_down_from_rule_to_rule(self):
        grammar = read_grammar("S : A x | y A z\nA : B\nB : C C\nC : c D\nD : ~")
        self.assertEqual(follow_signs(grammar), {"S": ["$"], "A": ["x", "z"], "B": ["x", "z"], "C": ["c", "x", "z"],
                                                 "D": ["c", "x", "z"]})

    def test_what_comes_behind_an_unreached_head_is_not_told(self):
        grammar = read_grammar("S : a\nFar : S b | Far c")
        self.assertEqual(follow_signs(grammar), {"S": ["$"]})
        grammar = read_grammar("S : A | A b Bad\nA : a\nBad : Bad")
        self.assertEqual(follow_signs(grammar), {"S": ["$"], "A": ["$"]})

    def check(self, grammar):
        signs, papers = follow_signs(grammar), follows(grammar)
        self.assertEqual({head: sorted(papers[head]) for head in papers}, signs)
        for head in papers:
            for ahead, paper in papers[head].items():
                self.assertEqual((type(paper), len(paper), type(paper[1])), (tuple, 2, list))
                tree, path = paper
                go_down(self, grammar.rules, grammar.start, tree)
                self.assertEqual(grammar.rules[part_at(tree, path).number][0], head)
                self.assertEqual(behind_path(tree, path), ahead)

    def test_papers(self):
        for grammar in (SUMS, MIXED, LEAFLESS):
            self.check(grammar)
        for text in ("E : E ! | E & | E 1 | n", "S : A B C d | A\nA : a\nB : b | ~\nC : c | ~",
                     "S : A x | y A z\nA : B\nB : C C\nC : c D\nD : ~", "S : ~ | S S S a"):
            self.check(read_grammar(text))


class TestReached(unittest.TestCase):

    def check_way(self, grammar, head, way):
        self.assertIs(type(way), list)
        sizes, now = least_sizes(grammar), grammar.start
        for step in way:
            self.assertIs(type(step), tuple)
            number, place = step
            self.assertEqual(grammar.rules[number][0], now)
            self.assertTrue(all(symbol in sizes or symbol in grammar.signs() for symbol in grammar.rules[number][1]))
            self.assertGreaterEqual(place, 0)
            now = grammar.rules[number][1][place]
        self.assertEqual(now, head)

    def test_ways(self):
        for grammar in (SUMS, MIXED, LEAFLESS):
            for head, way in reached(grammar).items():
                self.check_way(grammar, head, way)
            self.assertEqual(reached(grammar)[grammar.start], [])
        self.assertEqual(sorted(reached(SUMS)), ["E", "Rest", "T"])
        self.assertEqual(sorted(reached(MIXED)), ["A", "B", "S"])

    def test_the_only_ways(self):
        grammar = read_grammar("A : a B\nB : b b C | ~\nC : D c c c\nD : d d d E\nE : ~")
        self.assertEqual(reached(grammar), {"A": [], "B": [(0, 1)], "C": [(0, 1), (1, 2)], "D": [(0, 1), (1, 2), (3, 0)],
                                            "E": [(0, 1), (1, 2), (3, 0), (4, 3)]})

    def test_not_by_a_rule_with_a_barren_head(self):
        grammar = read_grammar("S : A Bad | a\nA : a\nBad : Bad")
        self.assertEqual((reached(grammar), live(grammar)), ({"S": []}, [1]))

    def test_live(self):
        self.assertEqual(live(SUMS), [0, 1, 2, 3, 4])
        self.assertEqual(live(LEAFLESS), [0, 1, 2, 3, 4])
        self.assertEqual(live(MIXED), [0, 1, 2, 6, 9, 10, 11])

    def test_live_where_a_head_is_never_reached(self):
        self.assertEqual(live(read_grammar("S : a\nFar : S | b\nS : b")), [0, 3])

    def test_live_where_the_start_is_barren(self):
        self.assertEqual(live(read_grammar("S : S a | A S\nA : a")), [])
        self.assertEqual(reached(read_grammar("S : S a | A S\nA : a")), {})


class TestFirstRow(unittest.TestCase):

    def test_rows(self):
        for symbols, ahead, told in (
                ([], "$", ["$"]), ([], "n", ["n"]), ([], "zz", ["zz"]), (["E"], "$", ["(", "n"]), (["Rest"], "$", ["$", "+"]),
                (["Rest"], "+", ["+"]), (["Rest", "Rest"], ")", [")", "+"]), (["Rest", "T"], "$", ["(", "+", "n"]),
                (["Rest", ")", "T"], "$", [")", "+"]), (["+", "E"], "$", ["+"]), (["n"], "$", ["n"]),
                (["T", "Rest"], "$", ["(", "n"]), (["Rest"], "!", ["!", "+"]), (["Rest"] * 9, "$", ["$", "+"])):
            self.assertEqual(first_row(SUMS, symbols, ahead), told)
            self.assertEqual(ahead_of(first_signs(SUMS), empty_heads(SUMS), symbols, ahead), told)

    def test_what_is_handed_in_is_not_changed(self):
        first, empty, symbols = first_signs(SUMS), empty_heads(SUMS), ["Rest", "T", "E"]
        told = ahead_of(first, empty, symbols, "$")
        self.assertEqual((first, empty, symbols), (first_signs(SUMS), empty_heads(SUMS), ["Rest", "T", "E"]))
        told.append("x")
        self.assertEqual(ahead_of(first, empty, symbols, "$"), ["(", "+", "n"])
        self.assertEqual(first_row(SUMS, symbols, "$"), ["(", "+", "n"])
        self.assertEqual(symbols, ["Rest", "T", "E"])

    def test_not_the_very_list_of_a_book(self):
        first = first_signs(SUMS)
        ahead_of(first, empty_heads(SUMS), ["E"], "$").clear()
        self.assertEqual(first["E"], ["(", "n"])


def shown(told):
    """A book in a form that can be compared: trees written out."""
    if isinstance(told, dict):
        return {key: shown(told[key]) for key in told}
    if isinstance(told, (list, tuple)):
        return [shown(part) for part in told]
    return told if isinstance(told, (str, int)) else written(told)


BOOKS = (least_sizes, empty_heads, fruitful, empties, first_signs, firsts, follow_signs, follows, reached, live)


class TestNothingChanges(unittest.TestCase):

    def spoil(self, told):
        """Change all lists and dicts that were told, however deep they lie."""
        if isinstance(told, dict):
            for part in told.values():
                self.spoil(part)
            told.clear()
        elif isinstance(told, tuple):
            for part in told:
                self.spoil(part)
        elif isinstance(told, list):
            for part in told:
                self.spoil(part)
            told.append("spoiled")

    def test_what_was_told_and_changed(self):
        for grammar in (SUMS, MIXED, LEAFLESS):
            for book in BOOKS:
                before = shown(book(grammar))
                self.spoil(book(grammar))
                self.assertEqual(shown(book(grammar)), before)

    def test_no_list_is_told_twice_in_one_book(self):
        for grammar in (SUMS, MIXED, LEAFLESS):
            papers = [paper for found in follows(grammar).values() for paper in found.values()]
            for lists in ([path for tree, path in papers], list(reached(grammar).values()),
                          list(first_signs(grammar).values()), list(follow_signs(grammar).values())):
                self.assertEqual(len({id(told) for told in lists}), len(lists))

    def test_kinds(self):
        kinds = [type(book(MIXED)) for book in BOOKS]
        self.assertEqual(kinds, [dict, list, dict, dict, dict, dict, dict, dict, dict, list])

    def test_grammars_made_alike_have_like_books(self):
        for grammar in (SUMS, MIXED, LEAFLESS):
            again = Grammar(list(grammar.rules), list(grammar.ranks))
            for book in BOOKS:
                self.assertEqual(shown(book(again)), shown(book(grammar)))

    def test_ranks_change_nothing(self):
        ranked = Grammar(list(SUMS.rules), [("left", ("+", "n"))])
        for book in BOOKS:
            self.assertEqual(shown(book(ranked)), shown(book(SUMS)))

    def test_trees_have_the_sizes_that_are_told(self):
        for grammar in (SUMS, MIXED, LEAFLESS):
            self.assertEqual({head: count_of(tree) for head, tree in fruitful(grammar).items()}, least_sizes(grammar))


if __name__ == "__main__":
    unittest.main()
