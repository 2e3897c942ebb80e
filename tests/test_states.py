"""[64], [65]: states in their order and numbers, where symbols lead from them, and their ways."""

import itertools
import unittest

from rulestable.errors import Dead, NoState, NoSymbol, TooMany, Vast
from rulestable.grammartext import read_grammar
from rulestable.items import closed, led
from rulestable.states import States
from tests.looking import OwnItems
from tests.refusing import Refusing
from tests.texts import (BARE_FORTY_ONE, DEAD, DEAD_AND_VAST, EMPTY, FORTY_ONE, ONE_MORE, SUMS, TERMS, THREE_HUNDRED,
                         clean_grammars)
from tests.things import all_things

CLEAN = clean_grammars(900, seed=64)


class TestByHand(unittest.TestCase):

    def test_of_one_rule(self):
        states = States(read_grammar("S : a"))
        self.assertEqual(states.many(), 3)
        self.assertEqual([states.items(state) for state in range(3)],
                         [[(-1, 0, "$"), (0, 0, "$")], [(-1, 1, "$")], [(0, 1, "$")]])
        self.assertEqual([states.way(state) for state in range(3)], [[], ["S"], ["a"]])
        self.assertEqual([states.to(state, symbol) for state in range(3) for symbol in ("S", "a")],
                         [1, 2, None, None, None, None])

    def test_of_a_rule_without_symbols(self):
        states = States(read_grammar("S : ~"))
        self.assertEqual(states.many(), 2)
        self.assertEqual(states.items(0), [(-1, 0, "$"), (0, 0, "$")])
        self.assertEqual(states.items(1), [(-1, 1, "$")])

    def test_in_their_order(self):
        # As Python orders texts figures and marks come first, then great letters, then small ones.
        states = States(read_grammar("S : a S | + | B 0\nB : b"))
        self.assertEqual([states.way(state) for state in range(states.many())],
                         [[], ["+"], ["B"], ["S"], ["a"], ["b"], ["B", "0"], ["a", "S"]])
        self.assertEqual(states.items(4), [(0, 0, "$"), (0, 1, "$"), (1, 0, "$"), (2, 0, "$"), (3, 0, "0")])
        self.assertEqual([states.to(4, symbol) for symbol in ("+", "0", "B", "S", "a", "b")], [1, None, 2, 7, 4, 5])

    def test_states_that_differ_by_what_is_ahead(self):
        states = States(read_grammar("S : ( A ) | A\nA : a"))
        self.assertEqual([states.way(state) for state in range(states.many())],
                         [[], ["("], ["A"], ["S"], ["a"], ["(", "A"], ["(", "a"], ["(", "A", ")"]])
        self.assertEqual(states.items(4), [(2, 1, "$")])
        self.assertEqual(states.items(6), [(2, 1, ")")])

    def test_fields(self):
        grammar = read_grammar(SUMS)
        self.assertIs(States(grammar).grammar, grammar)
        self.assertIs(States(grammar=grammar, most=300).grammar, grammar)

    def test_kinds(self):
        states = States(read_grammar(TERMS))
        self.assertIs(type(states.many()), int)
        for state in range(states.many()):
            self.assertIs(type(states.items(state)), list)
            self.assertIs(type(states.way(state)), list)


class TestManyGrammars(unittest.TestCase):

    def same(self, grammar):
        own = OwnItems(grammar.rules)
        wanted, leads = own.states()
        states = States(grammar)
        self.assertEqual(states.many(), len(wanted))
        self.assertEqual([states.items(state) for state in range(states.many())], wanted)
        for state in range(states.many()):
            for symbol in grammar.heads() + grammar.signs():
                self.assertEqual(states.to(state, symbol), leads.get((state, symbol)))
        return states

    def test_by_the_words_of_the_document(self):
        for grammar in CLEAN + [read_grammar(text) for text in (SUMS, TERMS, EMPTY)]:
            self.same(grammar)

    def test_by_closing_and_leading(self):
        for text in (SUMS, TERMS, EMPTY):
            grammar = read_grammar(text)
            states = States(grammar)
            self.assertEqual(states.items(0), closed(grammar, [(-1, 0, "$")]))
            for state in range(states.many()):
                for symbol in grammar.heads() + grammar.signs():
                    items = led(grammar, states.items(state), symbol)
                    to = states.to(state, symbol)
                    self.assertEqual(to is None, items == [])
                    self.assertEqual([] if to is None else states.items(to), items)

    def test_no_two_alike(self):
        for grammar in CLEAN:
            states = States(grammar)
            told = {tuple(states.items(state)) for state in range(states.many())}
            self.assertEqual(len(told), states.many())

    def test_ways(self):
        for grammar in CLEAN:
            states = States(grammar)
            symbols = sorted(grammar.heads() + grammar.signs())
            found, rows = {}, [([], 0)]
            while rows:
                # All rows of one length, in the order in which lists of texts are compared.
                for row, state in rows:
                    found.setdefault(state, row)
                led_on = [(row + [symbol], states.to(state, symbol)) for row, state in rows for symbol in symbols]
                rows = sorted([pair for pair in led_on if pair[1] is not None and pair[1] not in found])[:2000]
            self.assertEqual([states.way(state) for state in range(states.many())],
                             [found[state] for state in range(states.many())])

    def test_ways_among_all_rows(self):
        for text in (SUMS, EMPTY):
            states = States(read_grammar(text))
            found = {}
            for length in range(4):
                for row in itertools.product(sorted(states.grammar.heads() + states.grammar.signs()), repeat=length):
                    state = 0
                    for symbol in row:
                        state = None if state is None else states.to(state, symbol)
                    if state is not None:
                        found.setdefault(state, list(row))
            self.assertEqual({state: states.way(state) for state in found}, found)
            self.assertGreater(len(found), 5)


class TestHowMany(Refusing):

    def test_as_many_as_there_are(self):
        for text in ("S : a", "S : ~", SUMS, TERMS, EMPTY):
            grammar = read_grammar(text)
            many = States(grammar).many()
            self.assertEqual(States(grammar, many).many(), many)
            self.assertEqual(States(grammar, most=300).many(), many)
            for most in range(1, many):
                self.refuses(TooMany, "found", most + 1, States, grammar, most)

    def test_three_hundred(self):
        grammar = read_grammar(THREE_HUNDRED)
        for states in (States(grammar), States(grammar, 300)):
            self.assertEqual(states.many(), 300)
            self.assertEqual(len({tuple(states.way(state)) for state in range(300)}), 300)
        self.refuses(TooMany, "found", 300, States, grammar, 299)

    def test_three_hundred_and_one(self):
        grammar = read_grammar(ONE_MORE)
        self.refuses(TooMany, "found", 301, States, grammar)
        self.refuses(TooMany, "found", 301, States, grammar, 300)
        self.refuses(TooMany, "found", 201, States, grammar, 200)
        self.refuses(TooMany, "found", 2, States, grammar, 1)

    def test_the_three_hundred_by_the_words_of_the_document(self):
        grammar = read_grammar(THREE_HUNDRED)
        wanted, leads = OwnItems(grammar.rules).states()
        states = States(grammar)
        self.assertEqual([states.items(state) for state in range(300)], wanted)
        self.assertEqual({(state, symbol): states.to(state, symbol) for state, symbol in leads}, leads)

    def test_beyond_what_may_be_handed_in(self):
        self.assertEqual(States(read_grammar(ONE_MORE), 301).many(), 301)


class TestGrammars(Refusing):

    def refused(self, kind, field, kept, text):
        for told in ([], [1], [2], [300]):
            self.refuses(kind, field, kept, States, read_grammar(text), *told)

    def test_not_clean(self):
        self.refused(Dead, "number", 1, DEAD)
        self.refused(Dead, "number", 1, "S : a\nD : a")
        self.refused(Dead, "number", 0, "S : S a\nA : a")

    def test_vast(self):
        self.refused(Vast, "head", "S", FORTY_ONE)
        self.refused(Vast, "head", "S", BARE_FORTY_ONE)

    def test_not_clean_ahead_of_vast(self):
        self.refused(Dead, "number", 1, DEAD_AND_VAST)


class TestWrongOnes(Refusing):

    def no_states(self, many):
        things = [thing for thing in all_things() if type(thing) is not int or not 0 <= thing < many]
        return things + [many, many + 1, -many, [0], (0,), "0", 0.0, 1.0]

    def test_states(self):
        states = States(read_grammar(SUMS))
        for thing in self.no_states(states.many()):
            self.refuses(NoState, "state", thing, states.items, thing)
            self.refuses(NoState, "state", thing, states.way, thing)
            self.refuses(NoState, "state", thing, states.to, thing, "E")

    def test_symbols(self):
        states = States(read_grammar("left + zz\n" + SUMS))
        things = [thing for thing in all_things() if type(thing) is not str or thing not in ("E", "n")]
        for thing in things + ["zz", "Z", "$", "EE", ["E"], ("n",)]:
            self.refuses(NoSymbol, "found", thing, states.to, 0, thing)
            self.refuses(NoSymbol, "found", thing, states.to, states.many() - 1, thing)

    def test_states_ahead_of_symbols(self):
        states = States(read_grammar(SUMS))
        for thing in (None, -1, True, states.many(), "0"):
            for symbol in (None, "zz", "Z", 0):
                self.refuses(NoState, "state", thing, states.to, thing, symbol)

    def test_what_is_refused_changes_nothing(self):
        states = States(read_grammar(SUMS))
        before = [(states.items(state), states.way(state)) for state in range(states.many())]
        for ask in (lambda: states.items(-1), lambda: states.to(99, "E"), lambda: states.to(0, "zz"), lambda: states.way(None)):
            self.assertRaises(ValueError, ask)
        self.assertEqual([(states.items(state), states.way(state)) for state in range(states.many())], before)


class TestNothingChanges(unittest.TestCase):

    def test_lists_told_are_the_askers_own(self):
        states = States(read_grammar(TERMS))
        before = [(states.items(state), states.way(state)) for state in range(states.many())]
        for state in range(states.many()):
            states.items(state).clear()
            states.way(state).append("zz")
            told = states.items(state)
            told[0] = (0, 0, "zz")
            self.assertIsNot(states.items(state), states.items(state))
            self.assertIsNot(states.way(state), states.way(state))
        self.assertEqual([(states.items(state), states.way(state)) for state in range(states.many())], before)

    def test_the_same_of_another_made_alike(self):
        one, other = States(read_grammar(TERMS)), States(read_grammar(TERMS))
        self.assertEqual(one.many(), other.many())
        for state in range(one.many()):
            self.assertEqual(one.items(state), other.items(state))
            self.assertEqual(one.way(state), other.way(state))
            for symbol in one.grammar.heads() + one.grammar.signs():
                self.assertEqual(one.to(state, symbol), other.to(state, symbol))


if __name__ == "__main__":
    unittest.main()
