"""[3], [6], [22], [23]: what a grammar has and tells."""

import copy
import unittest

from rulestable.errors import NoPlace, NoRule, NoSymbol
from rulestable.grammar import Grammar
from tests.things import far_numbers, no_words, other_things, truths

RULES = [
    ("T", ("E",)),
    ("E", ("E", "+", "E")),
    ("E", ("E", "*", "E")),
    ("E", ("(", "E", ")")),
    ("A0", ()),
    ("E", ("-", "E", "!", "A0")),
    ("T", ("n", "n", "n", "n")),
    ("A0", ("E", "^", "E", "*")),
    ("E", ("*", "E", "+")),
]
RANKS = [("left", ("+", "-")), ("right", ("^",)), ("none", ("*", "zz", "?"))]


def made():
    return Grammar(list(RULES), list(RANKS))


class TestFields(unittest.TestCase):

    def test_rules_and_ranks_are_tuples_in_their_order(self):
        grammar = made()
        self.assertIs(type(grammar.rules), tuple)
        self.assertEqual(grammar.rules, tuple(RULES))
        self.assertIs(type(grammar.ranks), tuple)
        self.assertEqual(grammar.ranks, tuple(RANKS))

    def test_ranks_are_none_where_nothing_is_told(self):
        for grammar in (Grammar(RULES), Grammar(RULES, None), Grammar(RULES, []), Grammar(RULES, ()),
                        Grammar(RULES, ranks=None), Grammar(rules=RULES)):
            self.assertIs(type(grammar.ranks), tuple)
            self.assertEqual(grammar.ranks, ())

    def test_ranks_may_be_a_tuple(self):
        self.assertEqual(Grammar(RULES, tuple(RANKS)).ranks, tuple(RANKS))
        self.assertEqual(Grammar(rules=RULES, ranks=tuple(RANKS)).rank_of("^"), 1)

    def test_start_is_the_head_of_rule_0(self):
        self.assertEqual(made().start, "T")
        self.assertEqual(Grammar([("Z", ("A",)), ("A", ())]).start, "Z")
        self.assertEqual(Grammar([("A", ("Z",)), ("Z", ())]).start, "A")

    def test_the_smallest_grammar(self):
        grammar = Grammar([("E", ())])
        self.assertEqual((grammar.rules, grammar.ranks, grammar.start), ((("E", ()),), (), "E"))
        self.assertEqual((grammar.heads(), grammar.signs(), grammar.numbers_of("E")), (["E"], [], [0]))
        self.assertEqual((grammar.head_of(0), grammar.body_of(0), grammar.rank_by(0)), ("E", (), None))


class TestTold(unittest.TestCase):

    def test_heads_rise_without_doubles(self):
        self.assertEqual(made().heads(), ["A0", "E", "T"])
        rules = [("B", ()), ("A", ()), ("Ba", ()), ("B1", ()), ("Aa", ()), ("A9", ()), ("B", ("A",))]
        self.assertEqual(Grammar(rules).heads(), ["A", "A9", "Aa", "B", "B1", "Ba"])

    def test_signs_rise_without_doubles(self):
        self.assertEqual(made().signs(), ["!", "(", ")", "*", "+", "-", "^", "n"])
        self.assertEqual(Grammar([("E", ("b", "10", "a", "9")), ("E", ("ab", "b", "&", "E"))]).signs(),
                         ["&", "10", "9", "a", "ab", "b"])

    def test_signs_of_ranks_alone_are_not_told(self):
        self.assertNotIn("zz", made().signs())
        self.assertNotIn("?", made().signs())
        self.assertEqual(Grammar([("E", ())], [("left", ("a", "b"))]).signs(), [])

    def test_numbers_of_a_head_rise(self):
        grammar = made()
        self.assertEqual(grammar.numbers_of("T"), [0, 6])
        self.assertEqual(grammar.numbers_of("E"), [1, 2, 3, 5, 8])
        self.assertEqual(grammar.numbers_of("A0"), [4, 7])

    def test_head_and_body_of_each_rule(self):
        grammar = made()
        for number, (head, body) in enumerate(RULES):
            self.assertEqual(grammar.head_of(number), head)
            self.assertIs(type(grammar.body_of(number)), tuple)
            self.assertEqual(grammar.body_of(number), body)

    def test_each_of_twenty_rules_has_its_number(self):
        rules = [("E", (sign, other)) for sign in "abcd" for other in "vwxyz"]
        grammar = Grammar(rules)
        self.assertEqual(grammar.numbers_of("E"), list(range(20)))
        self.assertEqual([grammar.body_of(number) for number in range(20)], [body for head, body in rules])


class TestAskedWrongly(unittest.TestCase):

    def refuses(self, kind, field, ask, thing):
        try:
            told = ask(thing)
        except kind as refusal:
            self.assertIs(type(refusal), kind)
            self.assertIs(getattr(refusal, field), thing)
        else:
            self.fail(f"{told!r} told in the place of {kind.__name__}")

    def test_numbers_of_no_head_of_it(self):
        grammar = made()
        for thing in other_things() + truths() + far_numbers() + [0, 1] + no_words():
            self.refuses(NoSymbol, "found", grammar.numbers_of, thing)
        for thing in ("A", "A1", "e", "t", "n", "+", "Te", "EE", "zz", "$", "E "):
            self.refuses(NoSymbol, "found", grammar.numbers_of, thing)

    def test_no_number_of_a_rule(self):
        grammar = made()
        for ask in (grammar.head_of, grammar.body_of, grammar.rank_by):
            for thing in other_things() + truths() + far_numbers() + no_words():
                self.refuses(NoRule, "found", ask, thing)
            for thing in (-1, -9, 9, 10, 20, "0", "1", "E", "a", RULES[0], 0.0, 8.0):
                self.refuses(NoRule, "found", ask, thing)

    def test_no_place_of_a_rank(self):
        for thing in other_things() + truths() + far_numbers() + no_words():
            self.refuses(NoPlace, "place", made().side_at, thing)
        for thing in (-1, -3, 3, 4, 6, "0", "left", "+", RANKS[0], 0.0):
            self.refuses(NoPlace, "place", made().side_at, thing)
        for thing in (0, -1, 1, False, None, ()):
            self.refuses(NoPlace, "place", Grammar(RULES).side_at, thing)

    def test_what_is_refused_changes_nothing(self):
        grammar = made()
        before = (grammar.rules, grammar.ranks, grammar.start, grammar.heads(), grammar.signs())
        for ask in (grammar.numbers_of, grammar.head_of, grammar.body_of, grammar.rank_by, grammar.side_at):
            for thing in other_things():
                with self.assertRaises((NoSymbol, NoRule, NoPlace)):
                    ask(thing)
        self.assertEqual((grammar.rules, grammar.ranks, grammar.start, grammar.heads(), grammar.signs()), before)


class TestRanks(unittest.TestCase):

    def test_rank_of_each_sign(self):
        told = {sign: made().rank_of(sign) for sign in ("+", "-", "^", "*", "zz", "?")}
        self.assertEqual(told, {"+": 0, "-": 0, "^": 1, "*": 2, "zz": 2, "?": 2})

    def test_none_for_a_sign_without_a_rank(self):
        for sign in ("!", "(", ")", "n", "x", "z", "zzz", "+-", "left", "none"):
            self.assertIsNone(made().rank_of(sign))
            self.assertIsNone(Grammar(RULES).rank_of(sign))
        self.assertIsNone(Grammar(RULES).rank_of("+"))

    def test_none_for_whatever_is_no_sign(self):
        for thing in other_things() + truths() + far_numbers() + [0, 1] + no_words() + ["E", "T", "A0", "A"]:
            self.assertIsNone(made().rank_of(thing))

    def test_rank_by_a_rule_is_that_of_the_last_sign_with_one(self):
        told = [made().rank_by(number) for number in range(len(RULES))]
        self.assertEqual(told, [None, 0, 2, None, None, 0, None, 2, 0])

    def test_rank_by_each_place_of_the_last_sign(self):
        rules = [("E", ("+", "^", "n", "n")), ("E", ("^", "+", "n", "n")), ("E", ("^", "n", "n", "+")),
                 ("E", ("n", "n", "n", "^")), ("E", ("^",)), ("E", ("E", "E", "E", "E"))]
        grammar = Grammar(rules, RANKS)
        self.assertEqual([grammar.rank_by(number) for number in range(6)], [1, 0, 0, 1, 1, None])

    def test_no_rank_by_any_rule_where_there_are_none(self):
        grammar = Grammar(RULES)
        self.assertEqual([grammar.rank_by(number) for number in range(len(RULES))], [None] * len(RULES))

    def test_sides(self):
        self.assertEqual([made().side_at(place) for place in range(3)], ["left", "right", "none"])

    def test_six_ranks_of_ten_signs(self):
        ranks = [(("left", "right", "none")[place % 3], tuple(f"{mark}{figure}" for figure in range(10)))
                 for place, mark in enumerate("abcdef")]
        grammar = Grammar(RULES, ranks)
        for place, (side, signs) in enumerate(ranks):
            self.assertEqual(grammar.side_at(place), side)
            self.assertEqual([grammar.rank_of(sign) for sign in signs], [place] * 10)


class TestNothingChanges(unittest.TestCase):

    def answers(self, grammar):
        return (grammar.rules, grammar.ranks, grammar.start, grammar.heads(), grammar.signs(),
                [grammar.numbers_of(head) for head in grammar.heads()],
                [(grammar.head_of(number), grammar.body_of(number), grammar.rank_by(number)) for number in range(9)],
                [grammar.rank_of(sign) for sign in grammar.signs()], [grammar.side_at(place) for place in range(3)])

    def test_what_is_handed_in_is_not_changed(self):
        rules, ranks = copy.deepcopy(RULES), copy.deepcopy(RANKS)
        self.answers(Grammar(rules, ranks))
        self.assertEqual((rules, ranks), (RULES, RANKS))

    def test_lists_handed_in_and_emptied_later_change_nothing(self):
        rules, ranks = list(RULES), list(RANKS)
        grammar = Grammar(rules, ranks)
        before = self.answers(grammar)
        rules.clear()
        ranks.clear()
        self.assertEqual(self.answers(grammar), before)
        self.assertEqual(self.answers(grammar), self.answers(made()))

    def test_lists_handed_in_and_changed_later_change_nothing(self):
        rules, ranks = list(RULES), list(RANKS)
        grammar = Grammar(rules, ranks)
        rules[0] = ("Q", ())
        rules.append(("E", ("q",)))
        ranks[0] = ("right", ("q",))
        self.assertEqual(self.answers(grammar), self.answers(made()))

    def test_lists_told_and_changed_change_nothing(self):
        grammar = made()
        before = copy.deepcopy(self.answers(grammar))
        for ask in (grammar.heads, grammar.signs, lambda: grammar.numbers_of("E"), lambda: grammar.numbers_of("A0")):
            ask().append("x")
            ask().reverse()
            ask().clear()
            self.assertEqual(self.answers(grammar), before)

    def test_lists_told_are_new_ones_each_time(self):
        grammar = made()
        for ask in (grammar.heads, grammar.signs, lambda: grammar.numbers_of("T")):
            one, other = ask(), ask()
            self.assertIs(type(one), list)
            self.assertEqual(one, other)
            self.assertIsNot(one, other)

    def test_grammars_made_alike_answer_alike(self):
        self.assertEqual(self.answers(made()), self.answers(made()))

    def test_two_grammars_keep_nothing_of_one_another(self):
        one, other = made(), Grammar([("Q", ("q",))], [("none", ("q",))])
        self.assertEqual(self.answers(one), self.answers(made()))
        self.assertEqual((other.heads(), other.signs(), other.rank_of("q"), other.rank_of("+")), (["Q"], ["q"], 0, None))


if __name__ == "__main__":
    unittest.main()
