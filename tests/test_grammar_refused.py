"""[2], [5], [6], [21]: what is refused as a grammar, in which order, with what each refusal keeps."""

import copy
import unittest

from rulestable.errors import Doubled, NoHead, NoRanks, NoRule, TableError, TooMany
from rulestable.grammar import Grammar
from tests.things import far_numbers, no_words, other_things, truths

E0 = ("E", ())
NINE_HEADS = [(head, ()) for head in "ABCDEFGHI"]
ELEVEN_SIGNS = [("A", tuple("abcd")), ("A", tuple("efgh")), ("A", tuple("ijk"))]


def different_rules(count):
    """So many unlike rules of one head, at most 25, with ten signs at most."""
    return [("E", (one, other)) for one in "abcde" for other in "vwxyz"][:count]


def all_but(good):
    """The other things that are not equal to one of these tuples."""
    return [thing for thing in other_things() if not isinstance(thing, tuple) or thing not in good]


def some_ranks(count):
    return [("left", (f"a{place}",)) for place in range(count)]


class Refusals(unittest.TestCase):

    def refuses(self, kind, field, kept, rules, ranks=None):
        """The refusal is of just this class, and keeps this very thing, or this number."""
        try:
            Grammar(rules, ranks)
        except TableError as refusal:
            self.assertIs(type(refusal), kind)
            found = getattr(refusal, field)
            if type(kept) is int:
                self.assertIs(type(found), int)
                self.assertEqual(found, kept)
            else:
                self.assertIs(found, kept)
        else:
            self.fail(f"no {kind.__name__}")

    def no_rule(self, kept, rules, ranks=None):
        self.refuses(NoRule, "found", kept, rules, ranks)

    def no_ranks(self, kept, ranks):
        self.refuses(NoRanks, "found", kept, [E0], ranks)

    def too_many(self, count, rules, ranks=None):
        self.refuses(TooMany, "found", count, rules, ranks)


class TestRulesList(Refusals):

    def test_no_list(self):
        no_lists = [thing for thing in other_things() if not isinstance(thing, list)]
        for thing in no_lists + truths() + far_numbers() + [0, 1] + no_words() + ["E", "a"]:
            self.no_rule(thing, thing)
        for thing in (tuple([E0]), {E0: True}, {0: E0}, frozenset([E0]), iter([E0]), E0):
            self.no_rule(thing, thing)

    def test_no_rules(self):
        self.too_many(0, [])

    def test_twenty_and_more(self):
        self.assertEqual(len(set(different_rules(21))), 21)
        self.assertEqual(Grammar(different_rules(20)).rules, tuple(different_rules(20)))
        self.assertEqual(Grammar(different_rules(19)).rules, tuple(different_rules(19)))
        self.assertEqual(Grammar(different_rules(1)).rules, tuple(different_rules(1)))
        self.too_many(21, different_rules(21))
        self.too_many(1000, [E0] * 1000)

    def test_too_many_goes_ahead_of_what_is_no_rule(self):
        self.too_many(21, [None] * 21)
        self.too_many(21, [E0] * 21)
        self.too_many(25, [("E", ("F",))] * 25, 7)


class TestOneRule(Refusals):

    def refuses_rule(self, thing):
        self.no_rule(thing, [thing])
        self.no_rule(thing, [E0, thing])
        self.no_rule(thing, [E0, thing, ("E", ("a",))])

    def test_things_that_are_no_tuples_of_two(self):
        for thing in all_but([E0]) + truths() + far_numbers() + [0, 1] + no_words() + ["E", "Ea"]:
            self.refuses_rule(thing)
        for thing in (("E",), ("E", (), ()), ("E", ("a",), None), ["E", ("a",)], {"E": (), "F": ()}, "Ea"):
            self.refuses_rule(thing)

    def test_wrong_heads(self):
        for head in other_things() + truths() + far_numbers() + [0, 1] + no_words() + ["a", "+", "e", "Abcdefg"]:
            self.refuses_rule((head, ("a",)))

    def test_wrong_bodies(self):
        for body in all_but([(), ("a",), ("E",)]) + truths() + far_numbers() + [0, 1] + no_words() + ["", "a", "E", "ab"]:
            self.refuses_rule(("E", body))
        for body in (["a"], [], {"a": "b"}, ("a", ("b",)), frozenset(["a"])):
            self.refuses_rule(("E", body))

    def test_wrong_symbols_at_each_place_of_bodies(self):
        for thing in other_things() + truths() + far_numbers() + [0, 1] + no_words():
            for place in range(4):
                body = ["a", "E", "b", "c"]
                body[place] = thing
                rule = ("E", tuple(body))
                self.no_rule(rule, [rule])

    def test_bodies_of_none_to_four_and_of_five(self):
        for count in range(5):
            self.assertEqual(Grammar([("E", ("a",) * count)]).body_of(0), ("a",) * count)
            self.assertEqual(Grammar([("E", ("E",) * count)]).body_of(0), ("E",) * count)
        for count in (5, 6, 100):
            self.refuses_rule(("E", ("a",) * count))
            self.refuses_rule(("E", ("E",) * count))

    def test_lengths_of_heads_and_signs(self):
        rules = [("Abcdef", ("abcdef", "Abcdef")), ("Abcdef", ("+",))]
        self.assertEqual(Grammar(rules).rules, tuple(rules))
        self.refuses_rule(("Abcdefg", ()))
        self.refuses_rule(("E", ("abcdefg",)))
        self.refuses_rule(("E", ("a", "Abcdefg")))
        self.refuses_rule(("", ()))
        self.refuses_rule(("E", ("",)))
        self.refuses_rule(("E", ("$",)))
        self.refuses_rule(("$", ()))

    def test_doubled(self):
        self.refuses(Doubled, "number", 1, [E0, ("E", ())])
        self.refuses(Doubled, "number", 3, [E0, ("E", ("a",)), ("F", ("a",)), ("E", ("a",)), E0])
        self.refuses(Doubled, "number", 19, different_rules(19) + different_rules(1))
        self.refuses(Doubled, "number", 2, [("E", ("a", "E")), E0, ("E", ("a", "E"))])

    def test_rules_that_are_like_one_another_only_in_part(self):
        rules = [("E", ("a", "E")), ("F", ("a", "E")), ("E", ("E", "a")), ("E", ("a",)), ("E", ("a", "a")), ("E", ("aa",))]
        self.assertEqual(Grammar(rules).rules, tuple(rules))

    def test_rule_by_rule_the_first_one_refused_goes(self):
        bad, worse = ("E", 7), [1]
        self.refuses(Doubled, "number", 1, [E0, E0, bad])
        self.no_rule(bad, [E0, bad, E0])
        self.no_rule(bad, [bad, bad])
        self.no_rule(worse, [worse, E0, E0, bad])
        self.no_rule(bad, [E0, bad, worse])

    def test_all_rules_are_looked_at_ahead_of_heads_in_bodies(self):
        bad = ("E", None)
        self.no_rule(bad, [("E", ("F",)), bad])
        self.refuses(Doubled, "number", 2, [("E", ("F",)), E0, E0])


class TestHeadsInBodies(Refusals):

    def test_a_head_that_no_rule_has(self):
        self.refuses(NoHead, "head", "F", [("E", ("F",))])
        self.refuses(NoHead, "head", "Ef", [("E", ("E", "a", "Ef"))])
        self.refuses(NoHead, "head", "F", [("E", ("E", "E", "E", "F"))])
        self.refuses(NoHead, "head", "G", [E0, ("F", ("E", "F", "a")), ("F", ("G",))])

    def test_it_is_the_very_head(self):
        head = "".join(["F", "00", "7"])
        self.refuses(NoHead, "head", head, [E0, ("E", ("a", head))])

    def test_the_first_one_goes_by_rules_and_from_the_left(self):
        self.refuses(NoHead, "head", "Z", [("E", ("E", "Z", "B")), ("E", ("A",))])
        self.refuses(NoHead, "head", "Y", [E0, ("E", ("a", "Y", "X")), ("E", ("W",))])

    def test_a_head_of_a_later_rule_is_known(self):
        rules = [("E", ("F",)), ("F", ("G", "E")), ("G", ())]
        self.assertEqual(Grammar(rules).rules, tuple(rules))

    def test_it_goes_ahead_of_all_that_is_told_behind(self):
        self.refuses(NoHead, "head", "Z", NINE_HEADS + ELEVEN_SIGNS + [("A", ("Z",))], 7)


class TestManySymbols(Refusals):

    def test_heads(self):
        self.assertEqual(Grammar(NINE_HEADS[:8]).heads(), list("ABCDEFGH"))
        self.too_many(9, NINE_HEADS)
        self.too_many(20, [(head, ("a",)) for head in "ABCDEFGHIJKLMNOPQRST"])

    def test_heads_are_counted_without_doubles(self):
        rules = NINE_HEADS[:8] + [(head, ("A", "B", "a")) for head in "ABCDEFGH"]
        self.assertEqual(Grammar(rules).heads(), list("ABCDEFGH"))

    def test_signs(self):
        ten = ELEVEN_SIGNS[:2] + [("A", ("i", "j"))]
        self.assertEqual(Grammar(ten).signs(), list("abcdefghij"))
        self.too_many(11, ELEVEN_SIGNS)
        letters = "abcdefghijklmnopqrstuvwxyz0123456789"
        self.too_many(36, [("A", tuple(letters[k:k + 4])) for k in range(0, 36, 4)])

    def test_signs_are_counted_without_doubles_and_without_heads(self):
        rules = ELEVEN_SIGNS[:2] + [("A", ("i", "j", "a", "A")), ("B", ("j", "A", "B", "b"))]
        self.assertEqual(Grammar(rules).signs(), list("abcdefghij"))

    def test_signs_of_ranks_are_not_counted(self):
        rules = ELEVEN_SIGNS[:2] + [("A", ("i", "j"))]
        ranks = [("left", ("v", "w", "x", "y", "z"))]
        self.assertEqual(Grammar(rules, ranks).ranks, tuple(ranks))

    def test_eight_heads_and_ten_signs_in_twenty_rules_with_six_ranks(self):
        rules = NINE_HEADS[:8] + ELEVEN_SIGNS[:2] + [("A", ("i", "j"))] + [("B", (sign,)) for sign in "abcdefghi"]
        grammar = Grammar(rules, some_ranks(6))
        self.assertEqual((len(grammar.rules), len(grammar.heads()), len(grammar.signs())), (20, 8, 10))
        self.assertEqual(len(grammar.ranks), 6)

    def test_heads_go_ahead_of_signs_and_both_ahead_of_ranks(self):
        self.too_many(9, NINE_HEADS + ELEVEN_SIGNS, 7)
        self.too_many(9, NINE_HEADS, some_ranks(7))
        self.too_many(11, ELEVEN_SIGNS, 7)
        self.too_many(11, ELEVEN_SIGNS, some_ranks(7))


class TestRanksList(Refusals):

    def test_neither_list_nor_tuple(self):
        things = [thing for thing in other_things() if thing is not None and not isinstance(thing, (list, tuple))]
        for thing in things + truths() + far_numbers() + [0, 1] + no_words() + ["left", "none"]:
            self.no_ranks(thing, thing)
        for thing in ({"left": ("a",)}, iter([]), {("left", ("a",))}):
            self.no_ranks(thing, thing)

    def test_six_and_seven(self):
        for count in range(7):
            self.assertEqual(Grammar([E0], some_ranks(count)).ranks, tuple(some_ranks(count)))
            self.assertEqual(Grammar([E0], tuple(some_ranks(count))).ranks, tuple(some_ranks(count)))
        for count in (7, 8, 50):
            self.too_many(count, [E0], some_ranks(count))
            self.too_many(count, [E0], tuple(some_ranks(count)))

    def test_too_many_goes_ahead_of_what_is_no_rank(self):
        self.too_many(7, [E0], [None] * 7)
        self.too_many(7, [E0], (("left", ("a",)),) * 7)

    def test_rules_go_ahead_of_ranks(self):
        bad = ("E", None)
        self.no_rule(None, None, 7)
        self.no_rule(bad, [bad], 7)
        self.too_many(0, [], 7)
        self.refuses(Doubled, "number", 1, [E0, E0], some_ranks(7))
        self.refuses(NoHead, "head", "F", [("E", ("F",))], [None])


class TestOneRank(Refusals):

    def refuses_rank(self, thing):
        good, other = ("left", ("g",)), ("right", ("o",))
        self.no_ranks(thing, [thing])
        self.no_ranks(thing, (thing,))
        self.no_ranks(thing, [good, thing, other])

    def test_things_that_are_no_tuples_of_two(self):
        for thing in other_things() + truths() + far_numbers() + [0, 1] + no_words() + ["left", "E", "ab"]:
            self.refuses_rank(thing)
        for thing in (("left",), ("left", ("a",), ("b",)), ["left", ("a",)], {"left": 1, "right": 2}, ("left", "a", "b")):
            self.refuses_rank(thing)

    def test_sides(self):
        for side in ("left", "right", "none"):
            self.assertEqual(Grammar([E0], [(side, ("a",))]).ranks, ((side, ("a",)),))
        for side in other_things() + truths() + far_numbers() + [0, 1] + no_words():
            self.refuses_rank((side, ("a",)))
        for side in ("Left", "LEFT", "lef", "eft", "leftt", "left ", "up", "", "None", "nonen", "left right", "n"):
            self.refuses_rank((side, ("a",)))

    def test_one_to_ten_signs(self):
        for count in range(1, 11):
            signs = tuple("abcdefghij"[:count])
            self.assertEqual(Grammar([E0], [("none", signs)]).ranks, (("none", signs),))
        self.refuses_rank(("none", ()))
        self.refuses_rank(("none", tuple("abcdefghijk")))
        self.refuses_rank(("none", tuple("abcdefghijklmnopqrstuvwxyz")))

    def test_what_is_no_tuple_of_signs(self):
        for thing in all_but([("a",)]) + truths() + far_numbers() + [0, 1] + no_words() + ["a", "ab", ["a"], {"a": 1}, {"a"}]:
            self.refuses_rank(("left", thing))

    def test_what_is_no_sign_at_each_place(self):
        for thing in other_things() + truths() + far_numbers() + [0, 1] + no_words() + ["E", "Empty", "$", "abcdefg"]:
            for place in range(3):
                signs = ["a", "b", "c"]
                signs[place] = thing
                self.refuses_rank(("right", tuple(signs)))

    def test_a_sign_twice_in_a_rank(self):
        for signs in (("a", "a"), ("a", "b", "a"), ("b", "a", "a"), tuple("abcdefghia")):
            self.refuses_rank(("left", signs))

    def test_a_sign_that_stands_in_a_rank_ahead(self):
        one, two, three = ("left", ("a", "b")), ("right", ("c",)), ("none", ("d", "b"))
        self.no_ranks(three, [one, two, three])
        self.no_ranks(one, [three, two, one])
        again = ("left", ("a", "b"))
        self.no_ranks(again, [("left", ("a", "b")), two, again])

    def test_rank_by_rank_the_first_one_refused_goes(self):
        good, twice, bad = ("left", ("a",)), ("left", ("b", "b")), ("up", ("c",))
        again = ("right", ("a",))
        self.no_ranks(twice, [good, twice, bad])
        self.no_ranks(bad, [good, bad, twice])
        self.no_ranks(again, [good, again, bad])
        self.no_ranks(bad, [good, bad, again])

    def test_signs_that_no_rule_has_may_stand_in_ranks(self):
        grammar = Grammar([("E", ("a",))], [("left", ("b",)), ("none", ("c", "a"))])
        self.assertEqual((grammar.rank_of("a"), grammar.rank_of("b"), grammar.rank_of("c")), (1, 0, 1))


class TestRefusedChangesNothing(Refusals):

    def test_what_was_handed_in_is_as_it_was(self):
        cases = [
            ([], None), ([E0, E0], None), ([("E", ("F",))], []), ([E0, ["E", []]], []), ([E0], [("left", ["a"])]),
            ([E0], [("left", ("a", "a"))]), (NINE_HEADS, None), (ELEVEN_SIGNS, []), ([E0], some_ranks(7)),
        ]
        for rules, ranks in cases:
            rules, ranks = list(rules), ranks
            before = copy.deepcopy((rules, ranks))
            for turn in range(2):
                with self.assertRaises(TableError):
                    Grammar(rules, ranks)
                self.assertEqual((rules, ranks), before)

    def test_a_good_grammar_is_made_behind_a_refused_one(self):
        with self.assertRaises(NoRanks):
            Grammar([E0], [("left", ("a",)), ("left", ("a",))])
        self.assertEqual(Grammar([E0], [("left", ("a",))]).rank_of("a"), 0)

    def test_refused_alike_each_time(self):
        for turn in range(3):
            self.refuses(Doubled, "number", 1, [E0, E0])
            self.too_many(0, [])


if __name__ == "__main__":
    unittest.main()
