"""[61] to [63]: items, what they are closed by, where symbols lead them, and their cores."""

import random
import unittest

from rulestable.grammartext import read_grammar
from rulestable.items import closed, core_of, led
from tests.looking import OwnItems, own_items
from tests.texts import EMPTY, SUMS, clean_grammars

CLEAN = clean_grammars(900, seed=61)


class TestClosed(unittest.TestCase):

    def closed(self, text, items, *wanted):
        self.assertEqual(closed(read_grammar(text), items), sorted(items + list(wanted)))

    def test_the_start(self):
        self.closed(SUMS, [(-1, 0, "$")], (0, 0, "$"), (1, 0, "$"), (2, 0, "$"), (0, 0, "+"), (1, 0, "+"), (2, 0, "+"))

    def test_what_stands_behind_the_head(self):
        self.closed(SUMS, [(1, 1, "$")], *[(number, 0, sign) for number in range(3) for sign in (")", "+")])
        self.closed("S : A b\nA : a", [(0, 0, "$")], (1, 0, "b"))
        self.closed("S : A A\nA : a | b", [(0, 0, "$")], (1, 0, "a"), (1, 0, "b"), (2, 0, "a"), (2, 0, "b"))

    def test_what_is_ahead_of_the_item(self):
        self.closed("S : b A\nA : a", [(0, 1, "$")], (1, 0, "$"))
        self.closed("S : b A\nA : a", [(0, 1, "b")], (1, 0, "b"))
        self.closed("S : b A\nA : a", [(0, 1, "b"), (0, 1, "$")], (1, 0, "b"), (1, 0, "$"))

    def test_behind_what_may_be_empty(self):
        self.closed(EMPTY, [(0, 0, "$")], (2, 0, "b"), (3, 0, "b"), (2, 0, "c"), (3, 0, "c"))
        self.closed(EMPTY, [(0, 1, "$")], (4, 0, "c"), (5, 0, "c"))
        self.closed(EMPTY, [(4, 1, "c")], (2, 0, "c"), (3, 0, "c"))
        self.closed("S : A B A\nA : a | ~\nB : b | ~", [(0, 0, "$")],
                    *[(number, 0, sign) for number in (1, 2) for sign in ("$", "a", "b")])

    def test_the_items_ahead_only_where_all_behind_may_be_empty(self):
        self.closed("S : A B A\nA : a | ~\nB : b", [(0, 0, "$")], (1, 0, "b"), (2, 0, "b"))

    def test_a_yield_without_signs_is_no_first_sign(self):
        self.closed("S : A B\nA : a\nB : C C\nC : ~", [(0, 0, "$")], (1, 0, "$"))

    def test_all_the_way_down(self):
        self.closed("S : A x | x\nA : B y\nB : C z\nC : c", [(-1, 0, "$")],
                    (0, 0, "$"), (1, 0, "$"), (2, 0, "x"), (3, 0, "y"), (4, 0, "z"))
        self.closed("S : A | x\nA : B\nB : C\nC : S c", [(-1, 0, "$")],
                    *[(number, 0, sign) for number in range(5) for sign in ("$", "c")])

    def test_nothing_to_open(self):
        self.closed(SUMS, [])
        self.closed(SUMS, [(-1, 1, "$")])
        self.closed(SUMS, [(0, 1, "+"), (1, 0, ")"), (2, 0, "n"), (2, 1, "$"), (0, 3, "(")])

    def test_in_any_order_and_twice(self):
        grammar = read_grammar(SUMS)
        items = [(0, 2, "+"), (-1, 0, "$"), (0, 2, "+"), (2, 1, ")"), (-1, 0, "$")]
        told = closed(grammar, items)
        self.assertEqual(told, sorted(set(told)))
        self.assertEqual(told, closed(grammar, sorted(set(items))))
        self.assertEqual(told, closed(grammar, items[::-1]))

    def test_closed_again(self):
        grammar = read_grammar(EMPTY)
        for item in own_items(grammar.rules):
            told = closed(grammar, [item])
            self.assertEqual(closed(grammar, told), told)

    def test_kinds(self):
        told = closed(read_grammar(SUMS), [(-1, 0, "$")])
        self.assertIs(type(told), list)
        for item in told:
            self.assertIs(type(item), tuple)
            self.assertEqual([type(part) for part in item], [int, int, str])


class TestLed(unittest.TestCase):

    def led(self, text, items, symbol, wanted):
        self.assertEqual(led(read_grammar(text), items, symbol), sorted(wanted))

    def test_by_a_sign(self):
        self.led(SUMS, [(2, 0, "$"), (2, 0, "+"), (1, 0, "$")], "n", [(2, 1, "$"), (2, 1, "+")])

    def test_by_a_head(self):
        self.led(SUMS, [(-1, 0, "$"), (0, 0, "$"), (0, 0, "+")], "E", [(-1, 1, "$"), (0, 1, "$"), (0, 1, "+")])

    def test_closed_behind_it(self):
        opened = [(number, 0, sign) for number in range(3) for sign in ("+", ")")]
        self.led(SUMS, [(1, 0, "$")], "(", [(1, 1, "$")] + opened)

    def test_the_list_itself_is_not_closed(self):
        self.led(SUMS, [(-1, 0, "$")], "n", [])
        self.led(SUMS, [(-1, 0, "$")], "(", [])

    def test_none(self):
        self.led(SUMS, [], "E", [])
        self.led(SUMS, [], "+", [])
        self.led(SUMS, [(2, 1, "$"), (-1, 1, "$"), (0, 1, "+")], "E", [])
        self.led(EMPTY, [(3, 0, "$"), (5, 0, "b")], "A", [])

    def test_each_dot(self):
        text = "S : S a S a | b"
        opened = [(0, 0, "a"), (1, 0, "a")]
        self.led(text, [(0, 0, "$")], "S", [(0, 1, "$")])
        self.led(text, [(0, 1, "$")], "a", [(0, 2, "$")] + opened)
        self.led(text, [(0, 2, "$")], "S", [(0, 3, "$")])
        self.led(text, [(0, 3, "$")], "a", [(0, 4, "$")])
        for symbol in ("S", "a", "b"):
            self.led(text, [(0, 4, "$")], symbol, [])

    def test_in_any_order_and_twice(self):
        self.led(SUMS, [(2, 0, "n"), (1, 0, "$"), (2, 0, "$"), (2, 0, "n")], "n", [(2, 1, "$"), (2, 1, "n")])


class TestCores(unittest.TestCase):

    def test_each_once_and_rising(self):
        self.assertEqual(core_of([(2, 1, "+"), (0, 3, "$"), (2, 1, "$"), (-1, 1, "$"), (0, 1, "$"), (10, 0, "a")]),
                         [(-1, 1), (0, 1), (0, 3), (2, 1), (10, 0)])

    def test_of_none(self):
        self.assertEqual(core_of([]), [])

    def test_kinds(self):
        told = core_of([(2, 1, "+")])
        self.assertIs(type(told), list)
        self.assertIs(type(told[0]), tuple)

    def test_of_what_is_told(self):
        grammar = read_grammar(SUMS)
        told = closed(grammar, [(1, 1, "$")])
        self.assertEqual(core_of(told), [(0, 0), (1, 0), (1, 1), (2, 0)])


class TestNothingChanges(unittest.TestCase):

    def test_what_is_handed_in(self):
        grammar = read_grammar(SUMS)
        items = [(2, 0, "$"), (-1, 0, "$"), (2, 0, "$")]
        closed(grammar, items)
        led(grammar, items, "n")
        led(grammar, items, "E")
        core_of(items)
        self.assertEqual(items, [(2, 0, "$"), (-1, 0, "$"), (2, 0, "$")])
        self.assertEqual(grammar.rules, read_grammar(SUMS).rules)

    def test_lists_told_are_the_askers_own(self):
        grammar = read_grammar(SUMS)
        items = [(-1, 1, "$")]
        for tell in (lambda: closed(grammar, items), lambda: led(grammar, [(-1, 0, "$")], "E"), lambda: core_of(items)):
            before = list(tell())
            told = tell()
            self.assertIsNot(told, items)
            told.append((5, 5, "z"))
            self.assertEqual(tell(), before)
            self.assertIsNot(tell(), tell())
        self.assertEqual(items, [(-1, 1, "$")])


class TestManyGrammars(unittest.TestCase):

    def test_enough_to_look_at(self):
        self.assertGreater(len(CLEAN), 100)

    def test_each_item_by_itself(self):
        for grammar in CLEAN[:60]:
            own = OwnItems(grammar.rules)
            for item in own_items(grammar.rules)[:25]:
                self.assertEqual(closed(grammar, [item]), own.closed([item]))

    def test_some_items(self):
        chance = random.Random(62)
        for grammar in CLEAN:
            own = OwnItems(grammar.rules)
            items = own_items(grammar.rules)
            some = chance.sample(items, min(len(items), chance.randint(1, 6)))
            some.append(chance.choice(some))
            self.assertEqual(closed(grammar, some), own.closed(some))
            for symbol in grammar.heads() + grammar.signs():
                self.assertEqual(led(grammar, some, symbol), own.led(some, symbol))
            self.assertEqual(core_of(some), sorted({(number, dot) for number, dot, ahead in some}))


if __name__ == "__main__":
    unittest.main()
