"""[121], [122], [124]: the prices of deeds, and what is refused of rows and prices."""

import random
import unittest

from rulestable.costs import is_below, price_of
from rulestable.errors import NoPrice, NoRow
from rulestable.grammar import Grammar
from rulestable.grammartext import read_grammar
from rulestable.trees import Leaf, Node
from rulestable.treetext import read_tree
from tests.growing import deep_tree, grown_tree, row_of, some_grammars
from tests.looking import signs_of
from tests.paying import added_up, deeds_by, own_costs, own_price_of, prices_by
from tests.refusing import Refusing
from tests.texts import DEAD_AND_VAST, FORTY_ONE, SUMS
from tests.things import EqualToAll, all_things, no_rows, other_things

PRICES = {"+": (1, 2), "n": (3, 4), "(": (5, 6), ")": (7, 8)}
KEPT = [("keep", "n"), ("keep", "+"), ("keep", "n")]


def price_asked(grammar, row, prices):
    return price_of(grammar, row, prices, [], None)


def below_asked(grammar, row, prices):
    return is_below(grammar, row, prices, [])


ASKERS = (price_asked, below_asked)


class TestByHand(unittest.TestCase):

    def told(self, row, deeds, tree, prices=PRICES):
        """Of deeds told as words: `.n` keeps an n, `-n` leaves one out, `&n` puts one in."""
        words = {".": "keep", "-": "out", "&": "put"}
        made = [(words[deed[0]], deed[1:]) for deed in deeds.split()]
        return price_of(read_grammar(SUMS), row.split(), prices, made, read_tree(tree))

    def test_kept(self):
        self.assertEqual(self.told("n", ".n", "{2 n}"), 0)
        self.assertEqual(self.told("n + n", ".n .+ .n", "{0 {2 n} + {2 n}}"), 0)

    def test_put_in_and_left_out(self):
        self.assertEqual(self.told("", "&n", "{2 n}"), 3)
        self.assertEqual(self.told("n n", ".n -n", "{2 n}"), 4)
        self.assertEqual(self.told("n n", "-n .n", "{2 n}"), 4)
        self.assertEqual(self.told("n n", ".n &+ .n", "{0 {2 n} + {2 n}}"), 1)
        self.assertEqual(self.told("+", "&n .+ &n", "{0 {2 n} + {2 n}}"), 6)
        self.assertEqual(self.told("( n", ".( .n &)", "{1 ( {2 n} )}"), 7)
        self.assertEqual(self.told(") n (", "-) .n -(", "{2 n}"), 14)
        self.assertEqual(self.told("+ n", "&( -+ .n &)", "{1 ( {2 n} )}"), 5 + 2 + 7)

    def test_more_deeds_than_are_needed(self):
        self.assertEqual(self.told("n", "-n &n", "{2 n}"), 7)
        self.assertEqual(self.told("n", "&n -n", "{2 n}"), 7)

    def test_ten_signs(self):
        self.assertEqual(self.told("n " * 10, ".n " + "-n " * 9, "{2 n}"), 36)
        self.assertEqual(self.told("+ " * 10, "-+ " * 10 + "&n", "{2 n}"), 23)

    def test_signs_that_no_rule_has(self):
        prices = dict(PRICES, zz=(20, 1))
        self.assertEqual(self.told("n zz", ".n -zz", "{2 n}", prices), 1)
        self.assertEqual(self.told("zz zz n", "-zz -zz .n", "{2 n}", prices), 2)
        self.assertIsNone(self.told("n zz", ".n .zz", "{2 n}", prices))
        self.assertIsNone(self.told("n", ".n &zz", "{2 n}", prices))

    def test_a_row_and_a_yield_without_signs(self):
        self.assertEqual(price_of(read_grammar("S : ~ | a"), [], {"a": (1, 1)}, [], Node(0, [])), 0)
        self.assertEqual(price_of(read_grammar("S : ~ | a"), ["a"], {"a": (1, 2)}, [("out", "a")], Node(0, [])), 2)
        self.assertEqual(price_of(read_grammar("S : ~"), [], {}, [], Node(0, [])), 0)
        self.assertIsNone(price_of(read_grammar("S : ~ | a"), ["a"], {"a": (1, 2)}, [], Node(0, [])))
        self.assertIsNone(price_of(read_grammar("S : ~ | a"), [], {"a": (1, 2)}, [], Node(1, [Leaf("a")])))

    def test_signs_that_are_not_the_rows(self):
        for row, deeds in (("n", ""), ("n", "&n"), ("n", ".n -n"), ("n +", ".n"), ("+ n", ".n -+"), ("n", "-+ &n"), ("", ".n"),
                           ("n n", ".n"), ("( n )", "-) .n -(")):
            self.assertIsNone(self.told(row, deeds, "{2 n}"), (row, deeds))

    def test_signs_that_are_not_the_yield(self):
        for row, deeds, tree in (("n", ".n", "{1 ( {2 n} )}"), ("n", "-n", "{2 n}"), ("n", ".n &n", "{2 n}"),
                                 ("n + n", ".n .+ .n", "{2 n}"), ("( n )", ".( .n .)", "{2 n}"),
                                 ("n", "&) .n &(", "{1 ( {2 n} )}"), ("n", ".n", "{0 {2 n} + {2 n}}")):
            self.assertIsNone(self.told(row, deeds, tree), (row, deeds, tree))

    def test_words_that_are_none(self):
        grammar, tree = read_grammar(SUMS), read_tree("{2 n}")
        for word in ("", "Keep", "keep ", "kept", "take", "shift", "n", "outs", "pu", "KEEP", "$", "keepout", "e"):
            self.assertIsNone(price_of(grammar, ["n"], PRICES, [(word, "n")], tree))
            self.assertIsNone(price_of(grammar, ["n"], PRICES, [("keep", "n"), (word, "n")], tree))
            self.assertIsNone(price_of(grammar, ["n"], PRICES, [(word, ""), ("keep", "n")], tree))

    def test_any_texts(self):
        grammar, tree = read_grammar(SUMS), read_tree("{2 n}")
        for text in ("", "E", "$", "m", "N", " n", "nnnnnnn", "\xe4", "n + n"):
            for word in ("keep", "out", "put"):
                self.assertIsNone(price_of(grammar, ["n"], PRICES, [("keep", "n"), (word, text)], tree))

    def test_things_that_are_no_trees_of_the_start(self):
        atom = Node(2, [Leaf("n")])
        others = [Leaf("n"), Node(2, []), Node(2, [Leaf("m")]), Node(0, [atom]), Node(3, [Leaf("n")]), Node(2, [atom]),
                  Node(19, []), Node(2, ["n"]), Node(2, [None]), "{2 n}", (2, "n"), [atom], deep_tree(500, 2)]
        for thing in all_things() + others:
            self.assertIsNone(price_of(read_grammar(SUMS), ["n"], PRICES, [("keep", "n")], thing))
        grammar = read_grammar("S : A a\nA : a")
        self.assertIsNone(price_of(grammar, ["a"], {"a": (1, 1)}, [("keep", "a")], Node(1, [Leaf("a")])))

    def test_vast_grammars_and_those_without_trees(self):
        for text in (DEAD_AND_VAST, FORTY_ONE, "S : S a"):
            grammar = read_grammar(text)
            prices = {sign: (1, 1) for sign in signs_of(grammar.rules)}
            self.assertIsNone(price_of(grammar, [], prices, [], None))
            self.assertIs(is_below(grammar, [], prices, []), False)
        self.assertEqual(price_of(read_grammar("S : a | B\nB : B b"), ["b"], {"a": (2, 1), "b": (1, 3)},
                                  [("out", "b"), ("put", "a")], Node(0, [Leaf("a")])), 5)


class TestSearch(unittest.TestCase):

    def test_deeds_that_are_right(self):
        chance, many = random.Random(124), 0
        for grammar in some_grammars(300, seed=124):
            if not any(signs_of(grammar.rules)):
                continue
            row = [chance.choice(signs_of(grammar.rules) + ["zz"]) for turn in range(chance.randint(0, 10))]
            prices = prices_by(grammar.rules, row, chance)
            for turn in range(3):
                tree = self.tree_of(grammar, chance)
                if tree is not None:
                    many += 1
                    deeds = deeds_by(row, row_of(tree), chance)
                    self.assertEqual(price_of(grammar, row, prices, deeds, tree), added_up(prices, deeds))
                    self.near(grammar, row, prices, deeds, tree, chance)
        self.assertGreater(many, 300)

    def tree_of(self, grammar, chance):
        try:
            return grown_tree(grammar.rules, grammar.start, chance.randint(1, 4), chance)
        except RecursionError:
            return None

    def near(self, grammar, row, prices, deeds, tree, chance):
        """Deeds with one change, beside the test's own looking."""
        others = [deeds[:-1], deeds[1:], deeds[::-1], deeds * 2, deeds + [("keep", "a")], [("put", "a")] + deeds,
                  deeds + [("out", "zz")]]
        for place, (word, sign) in enumerate(deeds):
            others += [deeds[:place] + [told] + deeds[place + 1:] for told in (
                ("keep", sign), ("out", sign), ("put", sign), (word, "a"), (word, "b"), (word + " ", sign))]
            others.append(deeds[:place] + deeds[place + 1:place + 2] + [deeds[place]] + deeds[place + 2:])
        for other in others:
            wanted = own_price_of(grammar.rules, row, prices, other, tree)
            self.assertEqual(price_of(grammar, row, prices, other, tree), wanted)
        other = self.tree_of(grammar, chance)
        self.assertEqual(price_of(grammar, row, prices, deeds, other),
                         own_price_of(grammar.rules, row, prices, deeds, other))


class TestRefused(Refusing):

    def test_rows(self):
        for ask in ASKERS:
            for thing in no_rows(10):
                self.refuses(NoRow, "found", thing, ask, read_grammar("S : a"), thing, {"a": (1, 1)})

    def test_ten_signs_and_eleven(self):
        for ask in ASKERS:
            ask(read_grammar("S : a"), ["a"] * 10, {"a": (1, 1)})
            more = ["a"] * 11
            self.refuses(NoRow, "found", more, ask, read_grammar("S : a"), more, {"a": (1, 1)})

    def test_rows_ahead_of_prices(self):
        row = ["a"] * 11
        for ask in ASKERS:
            for thing in all_things() + [{"a": (0, 0)}, {"a": (1, 1)}]:
                self.refuses(NoRow, "found", row, ask, read_grammar("S : a"), row, thing)
                self.refuses(NoRow, "found", None, ask, read_grammar("S : a"), None, thing)

    def test_prices_that_are_no_dict(self):
        for ask in ASKERS:
            for thing in all_things() + [[("a", (1, 1))], (("a", (1, 1)),)]:
                if type(thing) is not dict:
                    self.refuses(NoPrice, "found", thing, ask, read_grammar("S : a"), ["a"], thing)
                    self.refuses(NoPrice, "found", thing, ask, read_grammar("S : ~"), [], thing)

    def test_signs_without_a_price(self):
        grammar = read_grammar(SUMS)
        for ask in ASKERS:
            for sign in PRICES:
                prices = dict(PRICES)
                prices.pop(sign)
                self.refuses(NoPrice, "found", sign, ask, grammar, ["n"], prices)
            self.refuses(NoPrice, "found", "zz", ask, grammar, ["n", "zz"], PRICES)

    def test_the_first_sign_rising_of_the_grammar_and_the_row(self):
        grammar = read_grammar("left zz\nS : d | b S f")
        for row, prices, wanted in (([], {}, "b"), (["a"], {}, "a"), (["c"], {"b": (1, 1)}, "c"), (["z"], {}, "b"),
                                    (["e", "c"], {"b": (1, 1)}, "c"), (["e"], {"b": (1, 1), "d": (1, 1)}, "e"),
                                    (["z", "g"], dict.fromkeys("bdf", (1, 1)), "g"), (["+"], {}, "+"),
                                    (["z", "g"], dict.fromkeys("bdfg", (1, 1)), "z")):
            for ask in ASKERS:
                self.refuses(NoPrice, "found", wanted, ask, grammar, row, prices)

    def test_tuples_that_are_no_price(self):
        wrong = other_things() + [None, 1, 20, "1", (1,), (1, 1, 1), [1, 1], (0, 1), (1, 0), (21, 1), (1, 21), (-1, 1),
                                  (1, -1), (True, 1), (1, True), (False, 1), (1.0, 1), (1, 1.0), ("1", 1), (1, "1"), (None, 1),
                                  (1, None), ((1, 1), 1), ((1, 1),), (10 ** 30, 1), (1, 10 ** 30), {1: 1, 2: 2}, (1, [1]),
                                  (EqualToAll(), EqualToAll()), ({}, 1), True, "ab", {"a": 1, "b": 2}]
        for ask in ASKERS:
            for thing in wrong:
                self.refuses(NoPrice, "found", "a", ask, read_grammar("S : a"), [], {"a": thing})
                self.refuses(NoPrice, "found", "zz", ask, read_grammar("S : a"), ["zz"], {"a": (1, 1), "zz": thing})

    def test_prices_of_1_and_of_20(self):
        grammar, tree = read_grammar("S : a"), Node(0, [Leaf("a")])
        for put in (1, 2, 19, 20):
            for out in (1, 2, 19, 20):
                self.assertEqual(price_of(grammar, ["a"], {"a": (put, out)}, [("put", "a"), ("out", "a")], tree), put + out)
                self.assertIs(is_below(grammar, [], {"a": (put, out)}, [("a", 0, 0, put), ("S", 0, 0, put)]), True)
                self.assertIs(is_below(grammar, [], {"a": (put, out)}, [("a", 0, 0, put + 1), ("S", 0, 0, put)]), False)

    def test_dicts_that_have_more_than_is_asked(self):
        more = dict(PRICES, zz=None, E=(0, 0), m=(21, 0))
        more.update({0: 1, None: None, (): (), True: [], "": {}, "$": 0, "aaaaaaa": (1, 1), b"n": 1, 1.5: EqualToAll()})
        grammar = read_grammar("left zz\n" + SUMS)
        self.assertEqual(price_of(grammar, ["n", "+", "n"], more, KEPT, read_tree("{0 {2 n} + {2 n}}")), 0)
        self.assertIs(is_below(grammar, ["n"], more, own_costs(grammar.rules, ["n"], PRICES)), True)

    def test_of_whatever_else_nothing_is_refused(self):
        for deeds in ([], [("", "")], [("keep", "E")], [("keep", "n")] * 400):
            self.assertIsNone(price_of(read_grammar(SUMS), ["n"], PRICES, deeds, None))
        for costs in ([], [("", 0, 0, 0)], [("E", -1, 99, -5)], [("n", 0, 0, 10 ** 40)]):
            self.assertIs(is_below(read_grammar(SUMS), ["n"], PRICES, costs), False)


class TestNothingChanges(unittest.TestCase):

    def test_what_is_handed_in(self):
        grammar, tree = read_grammar(SUMS), read_tree("{0 {2 n} + {2 n}}")
        row, prices, deeds = ["n", "n"], dict(PRICES), [("keep", "n"), ("put", "+"), ("keep", "n")]
        for turn in range(2):
            self.assertEqual(price_of(grammar, row, prices, deeds, tree), 1)
            costs = own_costs(grammar.rules, row, prices)
            before = list(costs)
            self.assertIs(is_below(grammar, row, prices, costs), True)
            self.assertEqual(costs, before)
            self.assertIs(is_below(grammar, row, prices, costs + costs[:1]), False)
            self.assertEqual((row, prices, deeds), (["n", "n"], PRICES, [("keep", "n"), ("put", "+"), ("keep", "n")]))

    def test_what_is_refused(self):
        grammar, row, prices = Grammar([("S", ("a",))]), ["a", "b"], {"a": (1, 1), "b": (0, 1)}
        for ask in ASKERS:
            self.assertRaises(NoPrice, ask, grammar, row, prices)
        self.assertEqual((row, prices), (["a", "b"], {"a": (1, 1), "b": (0, 1)}))


if __name__ == "__main__":
    unittest.main()
