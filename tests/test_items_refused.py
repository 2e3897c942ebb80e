"""[61], [63], [6]: what is refused of items, and which refusal goes first."""

import unittest

from rulestable.errors import Dead, NoItem, NoSymbol, Vast
from rulestable.grammartext import read_grammar
from rulestable.items import closed, led
from tests.looking import own_items
from tests.refusing import Refusing
from tests.texts import BARE_FORTY_ONE, DEAD, DEAD_AND_VAST, EMPTY, FORTY_ONE, SUMS
from tests.things import EqualToAll, all_things, deep_list


def led_by(symbol):
    return lambda grammar, items: led(grammar, items, symbol)


ASKERS = (closed, led_by("E"), led_by("+"), led_by("Z"), led_by(None))


def no_items():
    """Things that are no items of the grammar of sums."""
    told = all_things()
    told += [[0, 0, "$"], (0, 0), (0, 0, "$", 0), ("$", 0, 0), ((0, 0), "$"), "00$", {0: 0, 1: 0, 2: "$"}]
    told += [(thing, 0, "$") for thing in all_things() if type(thing) is not int or thing not in (-1, 0, 1, 2)]
    told += [(0, thing, "$") for thing in all_things() if type(thing) is not int or thing not in (0, 1, 2, 3)]
    told += [(0, 0, thing) for thing in all_things() if type(thing) is not str or thing not in ("$", "n")]
    told += [(-1, 0, sign) for sign in ("n", "+", "(", ")", "E", "", "zz")]
    told += [(-1, 2, "$"), (-1, -1, "$"), (-2, 0, "$"), (3, 0, "$"), (0, 4, "$"), (1, 4, "$"), (2, 2, "$"), (2, -1, "$")]
    told += [(0, 0, "zz"), (0, 0, "E"), (0, 0, "$$"), (0, 0, "-"), (-1, True, "$"), (True, 0, "$"), (0, False, "$")]
    told += [(-1.0, 0, "$"), (0, 1.0, "$"), (EqualToAll(), 0, "$"), (0, EqualToAll(), "$"), (0, 0, EqualToAll())]
    return told


class TestItems(Refusing):

    def test_all_items_are_taken(self):
        for text in (SUMS, EMPTY):
            grammar = read_grammar(text)
            for item in own_items(grammar.rules):
                self.assertIn(item, closed(grammar, [item]))
                led(grammar, [item], grammar.start)

    def test_the_start_s_own_with_each_dot(self):
        grammar = read_grammar(SUMS)
        self.assertIn((-1, 0, "$"), closed(grammar, [(-1, 0, "$")]))
        self.assertEqual(closed(grammar, [(-1, 1, "$")]), [(-1, 1, "$")])
        for item in ((-1, -1, "$"), (-1, 2, "$")):
            for ask in ASKERS:
                self.refuses(NoItem, "found", item, ask, grammar, [item])

    def test_things_that_are_none(self):
        grammar = read_grammar(SUMS)
        for ask in ASKERS:
            for thing in no_items():
                self.refuses(NoItem, "found", thing, ask, grammar, [thing])

    def test_the_first_one_of_the_list(self):
        grammar = read_grammar(SUMS)
        first, second = (0, 9, "$"), (9, 0, "$")
        for ask in ASKERS:
            self.refuses(NoItem, "found", first, ask, grammar, [(0, 0, "$"), first, (1, 0, "n"), second])
            self.refuses(NoItem, "found", second, ask, grammar, [second, first])
            self.refuses(NoItem, "found", None, ask, grammar, [(0, 0, "$"), (0, 0, "$"), None])

    def test_rules_without_symbols_have_one_dot(self):
        grammar = read_grammar(EMPTY)
        self.assertEqual(closed(grammar, [(3, 0, "$")]), [(3, 0, "$")])
        item = (3, 1, "$")
        self.refuses(NoItem, "found", item, closed, grammar, [item])

    def test_signs_of_ranks_alone_are_never_ahead(self):
        grammar = read_grammar("left + zz\n" + SUMS)
        item = (0, 0, "zz")
        self.refuses(NoItem, "found", item, closed, grammar, [item])


class TestLists(Refusing):

    def test_things_that_are_no_lists(self):
        grammar = read_grammar(SUMS)
        things = [thing for thing in all_things() if type(thing) is not list]
        things += [((0, 0, "$"),), (0, 0, "$"), {(0, 0, "$"): True}, {(0, 0, "$")}, "[]"]
        for ask in ASKERS:
            for thing in things:
                self.refuses(NoItem, "found", thing, ask, grammar, thing)


class TestSymbols(Refusing):

    def test_things_that_are_none(self):
        grammar = read_grammar("left + zz\n" + SUMS)
        things = [thing for thing in all_things() if type(thing) is not str or thing not in ("E", "n")]
        things += ["zz", "Z", "EE", "$", "e", "N", ["E"], ("E",), deep_list()]
        for items in ([], [(-1, 0, "$")]):
            for thing in things:
                self.refuses(NoSymbol, "found", thing, led, grammar, items, thing)

    def test_all_others_are_taken(self):
        grammar = read_grammar(SUMS)
        for symbol in ("E", "+", "(", ")", "n"):
            self.assertEqual(led(grammar, [], symbol), [])

    def test_behind_items(self):
        grammar = read_grammar(SUMS)
        item = (0, 0, "zz")
        self.refuses(NoItem, "found", item, led, grammar, [item], None)
        self.refuses(NoItem, "found", (), led, grammar, (), None)


class TestGrammars(Refusing):

    def both(self, kind, field, kept, text):
        grammar = read_grammar(text)
        for ask in ASKERS:
            for items in ([], [(-1, 0, "$")], [None], None, 0, "", (), {}, [(0, 9, "$")]):
                self.refuses(kind, field, kept, ask, grammar, items)

    def test_not_clean(self):
        self.both(Dead, "number", 1, DEAD)
        self.both(Dead, "number", 1, "S : a\nD : a")
        self.both(Dead, "number", 0, "S : S a\nA : a")

    def test_vast(self):
        self.both(Vast, "head", "S", FORTY_ONE)
        self.both(Vast, "head", "S", BARE_FORTY_ONE)

    def test_not_clean_ahead_of_vast(self):
        self.both(Dead, "number", 1, DEAD_AND_VAST)


if __name__ == "__main__":
    unittest.main()
