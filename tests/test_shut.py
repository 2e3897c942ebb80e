"""[48]: sets that are shut, each by its own words, rule by rule."""

import copy
import unittest

from rulestable.grammar import Grammar
from rulestable.grammartext import read_grammar
from rulestable.shut import are_least, is_barren_set, is_shut_empty, is_shut_firsts, is_shut_follows
from tests.things import EqualToAll

# B and C are barren, D is never reached; A and D may be empty.
MIXED = "S : A b S | A | B a\nA : a | ~\nB : C b | B\nC : B C\nD : D A | A"
NO_WORDS = ["", "$", " ", "E", "Z", "b", "a", "aa", "SS", "A ", "~"]


class Shut(unittest.TestCase):

    def yes(self, answer):
        self.assertIs(answer, True)

    def no(self, answer):
        self.assertIs(answer, False)


class TestBarrenSets(Shut):

    def setUp(self):
        self.grammar = read_grammar(MIXED)

    def test_all_barren_heads(self):
        self.yes(is_barren_set(self.grammar, ["B", "C"]))
        self.yes(is_barren_set(self.grammar, ["C", "B"]))

    def test_a_part_of_them(self):
        self.no(is_barren_set(self.grammar, ["B"]))
        self.yes(is_barren_set(self.grammar, ["C"]))

    def test_no_heads(self):
        self.yes(is_barren_set(self.grammar, []))

    def test_a_head_stands_twice(self):
        self.yes(is_barren_set(self.grammar, ["B", "C", "B"]))

    def test_a_fruitful_head_more(self):
        for head in ("S", "A", "D"):
            self.no(is_barren_set(self.grammar, ["B", "C", head]))
            self.no(is_barren_set(self.grammar, [head]))

    def test_one_rule_of_several_has_none_of_them(self):
        self.yes(is_barren_set(read_grammar("S : S a | a S"), ["S"]))
        self.no(is_barren_set(read_grammar("S : S a | a S | a"), ["S"]))
        self.no(is_barren_set(read_grammar("S : a | S a | a S"), ["S"]))
        self.no(is_barren_set(read_grammar("S : S a | a S | ~"), ["S"]))

    def test_one_of_them_anywhere_in_the_body(self):
        for body in (("B", "a", "a", "a"), ("a", "B", "a", "a"), ("a", "a", "B", "a"), ("a", "a", "a", "B")):
            self.yes(is_barren_set(Grammar([("S", ("a",)), ("B", body)]), ["B"]))

    def test_what_is_no_head_of_the_grammar(self):
        for word in NO_WORDS:
            self.no(is_barren_set(self.grammar, [word]))
            self.no(is_barren_set(self.grammar, ["B", "C", word]))
            self.no(is_barren_set(self.grammar, [word, "B", "C"]))

    def test_a_sign_that_each_rule_has(self):
        self.no(is_barren_set(read_grammar("S : a | a S"), ["S", "a"]))


class TestShutForEmptiness(Shut):

    def setUp(self):
        self.grammar = read_grammar(MIXED)

    def test_those_that_may_be_empty(self):
        self.yes(is_shut_empty(self.grammar, ["A", "D", "S"]))
        self.yes(is_shut_empty(self.grammar, ["S", "D", "A", "S"]))

    def test_one_less(self):
        self.no(is_shut_empty(self.grammar, ["D", "S"]))
        self.no(is_shut_empty(self.grammar, ["A", "S"]))
        self.no(is_shut_empty(self.grammar, ["A", "D"]))
        self.no(is_shut_empty(self.grammar, []))

    def test_one_more(self):
        self.yes(is_shut_empty(self.grammar, ["A", "D", "S", "B"]))
        self.yes(is_shut_empty(self.grammar, ["A", "D", "S", "C"]))
        self.yes(is_shut_empty(self.grammar, ["A", "D", "S", "B", "C"]))

    def test_one_more_that_draws_another_in(self):
        grammar = read_grammar("S : A A | a\nA : B\nB : b")
        self.yes(is_shut_empty(grammar, []))
        self.no(is_shut_empty(grammar, ["B"]))
        self.no(is_shut_empty(grammar, ["B", "A"]))
        self.yes(is_shut_empty(grammar, ["B", "A", "S"]))
        self.yes(is_shut_empty(grammar, ["S"]))

    def test_a_rule_without_symbols(self):
        grammar = read_grammar("S : a | ~")
        self.no(is_shut_empty(grammar, []))
        self.yes(is_shut_empty(grammar, ["S"]))

    def test_a_sign_in_the_body(self):
        for body in (("a",), ("a", "A"), ("A", "a"), ("A", "A", "a", "A")):
            self.yes(is_shut_empty(Grammar([("S", body), ("A", ())]), ["A"]))
        self.no(is_shut_empty(Grammar([("S", ("A", "A", "A", "A")), ("A", ())]), ["A"]))

    def test_what_is_no_head_of_the_grammar(self):
        for word in NO_WORDS:
            self.no(is_shut_empty(self.grammar, ["A", "D", "S", word]))
            self.no(is_shut_empty(self.grammar, [word, "A", "D", "S"]))
            self.no(is_shut_empty(read_grammar("S : a"), [word]))


class TestLeastNumbers(Shut):

    def setUp(self):
        self.grammar = read_grammar(MIXED)
        self.told = {"S": 2, "A": 1, "D": 2}

    def test_the_least_sizes(self):
        self.yes(are_least(self.grammar, self.told))

    def test_lesser_ones(self):
        self.yes(are_least(self.grammar, {"S": 1, "A": 1, "D": 2}))
        self.yes(are_least(self.grammar, {"S": -9, "A": -1, "D": -30}))
        self.no(are_least(self.grammar, {"S": -9, "A": -2, "D": -30}))
        self.yes(are_least(self.grammar, {"S": 0, "A": 0, "D": 0}))

    def test_lesser_ones_draw_others_down(self):
        self.no(are_least(self.grammar, {"S": 2, "A": 0, "D": 2}))
        self.no(are_least(self.grammar, {"S": 1, "A": 0, "D": 2}))
        self.yes(are_least(self.grammar, {"S": 1, "A": 0, "D": 1}))

    def test_one_is_too_great(self):
        for head in self.told:
            self.no(are_least(self.grammar, dict(self.told, **{head: self.told[head] + 1})))
            self.no(are_least(self.grammar, dict(self.told, **{head: 10 ** 30})))

    def test_one_is_missing(self):
        for head in self.told:
            self.no(are_least(self.grammar, {other: self.told[other] for other in self.told if other != head}))
        self.no(are_least(self.grammar, {}))

    def test_a_number_for_a_barren_head(self):
        self.no(are_least(self.grammar, dict(self.told, C=5)))
        self.yes(are_least(self.grammar, dict(self.told, B=5)))
        self.no(are_least(self.grammar, dict(self.told, B=-1)))
        self.yes(are_least(self.grammar, dict(self.told, B=5, C=7)))
        self.no(are_least(self.grammar, dict(self.told, B=10, C=7)))
        self.yes(are_least(self.grammar, dict(self.told, B=9, C=7)))
        self.yes(are_least(read_grammar("S : a\nB : B B"), {"S": 2, "B": -1}))
        self.no(are_least(read_grammar("S : a\nB : B B"), {"S": 2, "B": -2}))

    def test_heads_count_as_often_as_they_stand(self):
        grammar = read_grammar("S : A A b A\nA : a a a")
        self.yes(are_least(grammar, {"S": 14, "A": 4}))
        self.no(are_least(grammar, {"S": 15, "A": 4}))
        self.no(are_least(grammar, {"S": 14, "A": 5}))
        self.yes(are_least(grammar, {"S": 11, "A": 3}))
        self.no(are_least(grammar, {"S": 12, "A": 3}))

    def test_rules_without_symbols_and_of_signs_alone(self):
        self.yes(are_least(read_grammar("S : ~"), {"S": 1}))
        self.no(are_least(read_grammar("S : ~"), {"S": 2}))
        self.no(are_least(read_grammar("S : ~"), {}))
        self.yes(are_least(read_grammar("S : a b a b"), {"S": 5}))
        self.no(are_least(read_grammar("S : a b a b"), {"S": 6}))
        self.no(are_least(read_grammar("S : a b a b"), {}))
        self.yes(are_least(read_grammar("S : S"), {}))

    def test_the_least_of_several_rules(self):
        self.no(are_least(read_grammar("S : a | a b"), {"S": 3}))
        self.no(are_least(read_grammar("S : a b | a"), {"S": 3}))
        self.yes(are_least(read_grammar("S : a b | a"), {"S": 2}))

    def test_a_key_that_is_no_head_of_the_grammar(self):
        for word in NO_WORDS:
            self.no(are_least(self.grammar, dict(self.told, **{word: 1})))
        for thing in (0, None, True, (), ("A",)):
            self.no(are_least(self.grammar, {thing: 1, "S": 2, "A": 1, "D": 2}))


class TestFirsts(Shut):

    def setUp(self):
        self.grammar = read_grammar(MIXED)
        self.barren = ["B", "C"]
        self.empty = ["A", "D", "S"]
        self.starts = {"S": ["a", "b"], "A": ["a"], "B": [], "C": [], "D": ["a"], "a": ["a"], "b": ["b"]}

    def told(self, **others):
        return is_shut_firsts(self.grammar, self.barren, self.empty, dict(self.starts, **others))

    def test_the_true_ones(self):
        self.yes(self.told())

    def test_in_any_order_and_twice(self):
        self.yes(self.told(S=["b", "a", "b"]))

    def test_one_less(self):
        self.no(self.told(S=["a"]))
        self.no(self.told(S=["b"]))
        self.no(self.told(A=[]))
        self.no(self.told(D=[]))
        self.no(self.told(a=[]))
        self.no(self.told(b=["a"]))

    def test_one_list_less(self):
        for symbol in self.starts:
            less = {other: self.starts[other] for other in self.starts if other != symbol}
            self.no(is_shut_firsts(self.grammar, self.barren, self.empty, less))

    def test_one_more(self):
        self.yes(self.told(S=["a", "b", "zz"]))
        self.yes(self.told(B=["b"]))
        self.yes(self.told(C=["a", "b"]))
        self.yes(self.told(D=["a", "b"]))

    def test_one_more_that_must_be_handed_on(self):
        self.no(self.told(A=["a", "b"]))
        self.yes(self.told(A=["a", "b"], D=["a", "b"]))
        self.no(self.told(A=["a", "zz"], D=["a", "zz"]))
        self.yes(self.told(A=["a", "zz"], D=["a", "zz"], S=["a", "b", "zz"]))
        self.no(self.told(b=["b", "zz"]))
        self.yes(self.told(b=["b", "zz"], S=["a", "b", "zz"]))

    def test_rules_with_a_head_of_the_barren_set_count_no_more(self):
        grammar = read_grammar("S : a S | B S | ~\nB : b B")
        starts = {"S": ["a"], "B": [], "a": ["a"], "b": ["b"]}
        self.yes(is_shut_firsts(grammar, ["B"], ["S"], starts))
        self.no(is_shut_firsts(grammar, [], ["S"], starts))
        self.no(is_shut_firsts(grammar, [], ["S"], dict(starts, B=["b"])))
        self.yes(is_shut_firsts(grammar, [], ["S"], dict(starts, B=["b"], S=["b", "a"])))

    def test_a_barren_head_behind_in_the_body(self):
        grammar = read_grammar("S : a S B | b\nB : B B")
        starts = {"S": ["b"], "B": [], "a": ["a"], "b": ["b"]}
        self.yes(is_shut_firsts(grammar, ["B"], [], starts))
        self.no(is_shut_firsts(grammar, [], [], starts))

    def test_each_place_that_may_come_first(self):
        grammar = read_grammar("S : A B C c\nA : a | ~\nB : b | ~\nC : d")
        starts = {"S": ["a", "b", "d"], "A": ["a"], "B": ["b"], "C": ["d"], "a": ["a"], "b": ["b"], "c": ["c"], "d": ["d"]}
        self.yes(is_shut_firsts(grammar, [], ["A", "B"], starts))
        for sign in ("a", "b", "d"):
            less = [other for other in starts["S"] if other != sign]
            self.no(is_shut_firsts(grammar, [], ["A", "B"], dict(starts, S=less)))
        self.no(is_shut_firsts(grammar, [], ["A", "B", "C"], starts))
        self.yes(is_shut_firsts(grammar, [], ["A", "B", "C"], dict(starts, S=["a", "b", "c", "d"])))

    def test_a_body_that_may_be_empty_altogether(self):
        grammar = read_grammar("S : A B A B\nA : a | ~\nB : b | ~")
        starts = {"S": ["a", "b"], "A": ["a"], "B": ["b"], "a": ["a"], "b": ["b"]}
        self.yes(is_shut_firsts(grammar, [], ["A", "B", "S"], starts))
        self.no(is_shut_firsts(grammar, [], ["A", "B", "S"], dict(starts, S=["a"])))

    def test_what_is_handed_in_beside_is_none(self):
        starts = dict(self.starts, S=["a", "b"], B=["a", "b"], C=["a", "b"], D=["a", "b"])
        self.yes(is_shut_firsts(self.grammar, [], self.empty, starts))
        self.yes(is_shut_firsts(self.grammar, ["C"], self.empty, starts))
        for barren in (["B"], ["B", "C", "A"], ["Z"], ["a"], ["$"], [""], ["B", "C", "Z"], ["B", "C", "b"]):
            self.no(is_shut_firsts(self.grammar, barren, self.empty, starts))
        for empty in ([], ["A", "D"], ["A", "S"], ["A", "D", "S", "Z"], ["A", "D", "S", "a"], ["$", "A", "D", "S"]):
            self.no(is_shut_firsts(self.grammar, self.barren, empty, starts))

    def test_other_keys_change_nothing(self):
        for word in ["", "$", " ", "Z", "zz", "SS", "~"]:
            for told in ([], ["a"], ["zz"], ["a", "b", "zz"], None):
                self.yes(self.told(**{word: told}))
                self.no(self.told(**{word: told, "A": []}))
        self.yes(is_shut_firsts(self.grammar, self.barren, self.empty, dict(self.starts) | {0: [], None: ["a"], (): 5}))


class TestFollows(Shut):

    def setUp(self):
        self.grammar = read_grammar(MIXED)
        self.barren = ["B", "C"]
        self.empty = ["A", "D", "S"]
        self.starts = {"S": ["a", "b"], "A": ["a"], "B": [], "C": [], "D": ["a"], "a": ["a"], "b": ["b"]}
        self.ends = {"S": ["$"], "A": ["$", "b"]}

    def told(self, **others):
        return is_shut_follows(self.grammar, self.barren, self.empty, self.starts, dict(self.ends, **others))

    def test_the_true_ones(self):
        self.yes(self.told())

    def test_in_any_order_and_twice(self):
        self.yes(self.told(A=["b", "$", "b"]))

    def test_one_less(self):
        self.no(self.told(S=[]))
        self.no(self.told(S=["b"]))
        self.no(self.told(A=["$"]))
        self.no(self.told(A=["b"]))
        self.no(is_shut_follows(self.grammar, self.barren, self.empty, self.starts, {}))
        self.no(is_shut_follows(self.grammar, self.barren, self.empty, self.starts, {"S": ["$"]}))
        self.no(is_shut_follows(self.grammar, self.barren, self.empty, self.starts, {"A": ["$", "b"]}))

    def test_one_more(self):
        self.yes(self.told(A=["$", "a", "b"]))
        self.yes(self.told(A=["$", "b", "zz"]))
        self.no(self.told(S=["$", "a"]))
        self.no(self.told(S=["$", "zz"]))
        self.yes(self.told(S=["$", "a"], A=["$", "a", "b"]))

    def test_a_head_more_that_has_a_list(self):
        self.yes(self.told(B=[]))
        self.yes(self.told(B=["a"]))
        self.yes(self.told(C=["$"]))
        # D stands ahead of A, which may be empty.
        self.no(self.told(D=[]))
        self.yes(self.told(D=["a"], A=["$", "a", "b"]))
        self.no(self.told(D=["a"]))
        self.no(self.told(D=["a", "zz"], A=["$", "a", "b"]))
        self.yes(self.told(D=["a", "zz"], A=["$", "a", "b", "zz"]))

    def test_a_head_with_a_list_without_anything_needs_one_for_those_in_its_bodies(self):
        grammar = read_grammar("S : a | B\nA : C c\nB : b\nC : c")
        starts = {"S": ["a", "b"], "A": ["c"], "B": ["b"], "C": ["c"], "a": ["a"], "b": ["b"], "c": ["c"]}
        self.yes(is_shut_follows(grammar, [], [], starts, {"S": ["$"], "B": ["$"]}))
        self.no(is_shut_follows(grammar, [], [], starts, {"S": ["$"], "B": ["$"], "A": []}))
        self.no(is_shut_follows(grammar, [], [], starts, {"S": ["$"], "B": ["$"], "A": [], "C": []}))
        self.yes(is_shut_follows(grammar, [], [], starts, {"S": ["$"], "B": ["$"], "A": [], "C": ["c"]}))

    def test_a_list_without_anything_counts_as_one(self):
        grammar = read_grammar("S : a\nA : B\nB : b")
        starts = {"S": ["a"], "A": ["b"], "B": ["b"], "a": ["a"], "b": ["b"]}
        self.no(is_shut_follows(grammar, [], [], starts, {"S": ["$"], "A": []}))
        self.yes(is_shut_follows(grammar, [], [], starts, {"S": ["$"], "A": [], "B": []}))

    def test_all_that_may_stand_behind(self):
        grammar = read_grammar("S : C A B d | a\nA : a | ~\nB : b | ~\nC : c")
        starts = {"S": ["a", "c"], "A": ["a"], "B": ["b"], "C": ["c"], "a": ["a"], "b": ["b"], "c": ["c"], "d": ["d"]}
        ends = {"S": ["$"], "A": ["b", "d"], "B": ["d"], "C": ["a", "b", "d"]}
        self.yes(is_shut_follows(grammar, [], ["A", "B"], starts, ends))
        for head in ends:
            for sign in ends[head]:
                less = dict(ends, **{head: [other for other in ends[head] if other != sign]})
                self.no(is_shut_follows(grammar, [], ["A", "B"], starts, less))

    def test_what_stands_behind_the_whole_is_handed_on(self):
        grammar = read_grammar("S : A s | t\nA : C D E\nC : c | ~\nD : d | ~\nE : e | ~")
        empty = ["A", "C", "D", "E"]
        starts = {"S": ["c", "d", "e", "s", "t"], "A": ["c", "d", "e"], "C": ["c"], "D": ["d"], "E": ["e"]}
        starts.update({sign: [sign] for sign in "cdest"})
        ends = {"S": ["$"], "A": ["s"], "C": ["d", "e", "s"], "D": ["e", "s"], "E": ["s"]}
        self.yes(is_shut_follows(grammar, [], empty, starts, ends))
        for head in "CDE":
            less = dict(ends, **{head: [other for other in ends[head] if other != "s"]})
            self.no(is_shut_follows(grammar, [], empty, starts, less))

    def test_no_more_than_that(self):
        grammar = read_grammar("S : A b A | ( S )\nA : a")
        starts = {"S": ["(", "a"], "A": ["a"], "a": ["a"], "b": ["b"], "(": ["("], ")": [")"]}
        self.yes(is_shut_follows(grammar, [], [], starts, {"S": ["$", ")"], "A": ["$", ")", "b"]}))

    def test_rules_with_a_head_of_the_barren_set_count_no_more(self):
        grammar = read_grammar("S : A A B | a\nA : a\nB : b B")
        starts = {"S": ["a"], "A": ["a"], "B": [], "a": ["a"], "b": ["b"]}
        self.yes(is_shut_follows(grammar, ["B"], [], starts, {"S": ["$"]}))
        starts["B"] = ["b"]
        self.no(is_shut_follows(grammar, [], [], starts, {"S": ["$"]}))
        self.yes(is_shut_follows(grammar, [], [], starts, {"S": ["$"], "A": ["a", "b"], "B": ["$"]}))

    def test_a_start_of_the_barren_set_needs_no_list(self):
        grammar = read_grammar("S : S a\nA : a")
        starts = {"S": ["a"], "A": ["a"], "a": ["a"]}
        self.yes(is_shut_follows(grammar, ["S"], [], starts, {}))
        self.yes(is_shut_follows(grammar, ["S"], [], starts, {"S": []}))
        self.no(is_shut_follows(grammar, [], [], starts, {}))
        self.no(is_shut_follows(grammar, [], [], starts, {"S": ["$"]}))
        self.yes(is_shut_follows(grammar, [], [], starts, {"S": ["$", "a"]}))

    def test_what_is_handed_in_beside_is_none(self):
        starts = dict(self.starts, B=["a", "b"], C=["a", "b"])
        ends = {head: ["$", "a", "b"] for head in "SABCD"}
        self.yes(is_shut_follows(self.grammar, [], self.empty, starts, ends))
        self.yes(is_shut_follows(self.grammar, ["C"], self.empty, starts, ends))
        for barren in (["B"], ["B", "C", "A"], ["Z"], ["a"], ["$"], [""], ["B", "C", "Z"], ["B", "C", "b"]):
            self.no(is_shut_follows(self.grammar, barren, self.empty, starts, ends))
        for empty in ([], ["A", "D"], ["A", "S"], ["A", "D", "S", "Z"], ["A", "D", "S", "a"], ["$", "A", "D", "S"]):
            self.no(is_shut_follows(self.grammar, self.barren, empty, starts, ends))

    def test_firsts_that_are_not_shut_show_nothing(self):
        for less in (dict(self.starts, S=["a"]), dict(self.starts, A=[]), dict(self.starts, b=[]), {}):
            self.no(is_shut_follows(self.grammar, self.barren, self.empty, less, self.ends))
        # Else the b behind A would be missing, though all other words are kept.
        self.no(is_shut_follows(read_grammar("S : A B\nA : a\nB : b"), [], [],
                                {"S": [], "A": [], "B": [], "a": [], "b": []}, {"S": ["$"], "A": [], "B": ["$"]}))

    def test_other_keys_of_firsts_change_nothing(self):
        starts = dict(self.starts, **{"Z": ["zz"], "$": [], "": None, "zz": []})
        self.yes(is_shut_follows(self.grammar, self.barren, self.empty, starts, self.ends))

    def test_a_key_that_is_no_head_of_the_grammar(self):
        for word in NO_WORDS:
            self.no(self.told(**{word: ["$"]}))
            self.no(self.told(**{word: []}))
        for thing in (0, None, True, (), ("A",)):
            self.no(is_shut_follows(self.grammar, self.barren, self.empty, self.starts, dict(self.ends) | {thing: []}))


class TestThings(Shut):

    def test_what_calls_itself_equal_to_a_head(self):
        grammar = read_grammar(MIXED)
        self.no(is_barren_set(grammar, ["B", "C", EqualToAll()]))
        self.no(is_shut_empty(grammar, ["A", "D", "S", EqualToAll()]))


class TestNothingChanges(Shut):

    def test_what_is_handed_in(self):
        grammar = read_grammar(MIXED)
        starts = {"S": ["a", "b"], "A": ["a"], "B": [], "C": [], "D": ["a"], "a": ["a"], "b": ["b"]}
        asked = [(is_barren_set, [["B", "C"]]), (is_barren_set, [["B"]]), (is_shut_empty, [["S", "D", "A"]]),
                 (is_shut_empty, [[]]), (are_least, [{"S": 2, "A": 1, "D": 2}]), (are_least, [{}]),
                 (is_shut_firsts, [["B", "C"], ["S", "D", "A"], starts]), (is_shut_firsts, [["B"], [], {}]),
                 (is_shut_follows, [["B", "C"], ["S", "D", "A"], starts, {"S": ["$"], "A": ["b", "$"]}]),
                 (is_shut_follows, [["B"], [], {}, {}])]
        for ask, told in asked:
            before = copy.deepcopy(told)
            answer = ask(grammar, *told)
            self.assertEqual(told, before)
            self.assertIs(ask(grammar, *told), answer)
            self.assertIs(ask(read_grammar(MIXED), *told), answer)
        self.assertEqual(grammar.rules, read_grammar(MIXED).rules)


if __name__ == "__main__":
    unittest.main()
