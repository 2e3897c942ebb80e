"""[67]: the items of a state are just those that are valid for its way, and each has a paper."""

import functools
import itertools
import unittest

from rulestable.books import fruitful
from rulestable.errors import NoItem, NoState
from rulestable.grammartext import read_grammar
from rulestable.items import is_valid
from rulestable.states import States, paper_for
from rulestable.trees import Node
from tests.growing import (behind_path, count_of, go_down, is_great, nodes_with_paths, part_at, row_of, small_trees,
                           written)
from tests.looking import OwnItems, is_own_paper, own_cut, own_items
from tests.refusing import Refusing
from tests.texts import BARE_FORTY, EMPTY, FORTY, SUMS, TERMS, THREE_HUNDRED, clean_grammars
from tests.things import EqualToAll, all_things

CLEAN = clean_grammars(500, seed=67)
TEXTS = (SUMS, TERMS, EMPTY, FORTY, BARE_FORTY, "S : a", "S : ~", "S : S S | ~", "S : A A A A\nA : a | ~",
         "S : ( S ) S | ~", "S : A x | B y | x\nA : C\nB : C\nC : c C | ~")


@functools.cache
def smallest(grammar):
    """The smallest trees that the books tell."""
    return fruitful(grammar)


class Papers(unittest.TestCase):

    def looked_through(self, states, state, item, paper):
        """The paper is one for the item and the state's way; its trees to the left are the smallest ones told."""
        grammar = states.grammar
        self.assertIs(type(paper), tuple)
        tree, path = paper
        number, dot, ahead = item
        go_down(self, grammar.rules, grammar.start, tree)
        if number == -1:
            self.assertIsNone(path)
            self.assertEqual(states.way(state), [grammar.start] * dot)
            self.assertEqual(written(tree), written(smallest(grammar)[grammar.start]))
            return
        self.assertIs(type(path), list)
        self.assertTrue(all(type(place) is int for place in path))
        self.assertEqual(part_at(tree, path).number, number)
        self.assertEqual(own_cut(grammar.rules, tree, path, dot), states.way(state))
        self.assertEqual(behind_path(tree, path), ahead)
        self.left_ones(grammar, tree, path + [dot])

    def left_ones(self, grammar, tree, places):
        for place in places:
            body = grammar.rules[tree.number][1]
            for symbol, child in zip(body[:place], tree.children):
                self.assertEqual(written(child), written(smallest(grammar)[symbol]) if is_great(symbol) else symbol)
            tree = tree.children[place] if place < len(tree.children) else None

    def row_along(self, grammar, way):
        """The yields of the smallest trees of a way's symbols, one behind the other."""
        told = smallest(grammar)
        return [sign for symbol in way for sign in (row_of(told[symbol]) if is_great(symbol) else [symbol])]


class TestEachItem(Papers):

    def all_papers(self, grammar):
        states = States(grammar)
        for state in range(states.many()):
            row = self.row_along(grammar, states.way(state))
            for item in states.items(state):
                paper = paper_for(states, state, item)
                self.looked_through(states, state, item, paper)
                self.assertEqual(row_of(paper[0])[:len(row)], row)
                self.assertIs(is_valid(grammar, states.way(state), item, *paper), True)
                self.assertTrue(is_own_paper(grammar.rules, states.way(state), item, *paper))

    def test_by_hand(self):
        for text in TEXTS:
            self.all_papers(read_grammar(text))

    def test_many_grammars(self):
        self.assertGreater(len(CLEAN), 100)
        for grammar in CLEAN:
            self.all_papers(grammar)

    def test_three_hundred_states(self):
        states = States(read_grammar(THREE_HUNDRED))
        for state in range(0, 300, 7):
            for item in states.items(state):
                self.looked_through(states, state, item, paper_for(states, state, item))

    def test_only_one_right_paper(self):
        states = States(read_grammar("S : a S b | c"))
        told = paper_for(states, states.to(0, "a"), (0, 1, "$"))
        self.assertEqual((written(told[0]), told[1]), ((0, "a", (1, "c"), "b"), []))
        tree, path = paper_for(states, states.to(0, "a"), (1, 0, "b"))
        self.assertEqual((written(tree), path), ((0, "a", (1, "c"), "b"), [1]))

    def test_the_start_s_own_number(self):
        states = States(read_grammar("S : A b\nA : a a | a"))
        for state, item in ((0, (-1, 0, "$")), (states.to(0, "S"), (-1, 1, "$"))):
            tree, path = paper_for(states, state, item)
            self.assertEqual(written(tree), (0, (2, "a"), "b"))
            self.assertIsNone(path)

    def test_what_is_ahead_comes_from_behind_several_empty_ones(self):
        grammar = read_grammar("S : ( T ) | T\nT : A B C D\nA : a\nB : b | ~\nC : c | ~\nD : d | ~")
        states = States(grammar)
        inside = states.to(0, "(")
        for state, last in ((0, "$"), (inside, ")")):
            for ahead in ("b", "c", "d", last):
                paper = paper_for(states, state, (3, 0, ahead))
                self.looked_through(states, state, (3, 0, ahead), paper)


class TestJustThose(Papers):
    """A search over small trees finds no item for a way that the state hasn't, and each other item has no paper."""

    def state_by(self, states, way):
        state = 0
        for symbol in way:
            state = states.to(state, symbol)
            self.assertIsNotNone(state)
        return state

    def test_nothing_missing_that_small_trees_have(self):
        count = 0
        for grammar in CLEAN + [read_grammar(text) for text in TEXTS]:
            states = States(grammar)
            items = [states.items(state) for state in range(states.many())]
            for tree in small_trees(grammar.rules, 7, 12)[grammar.start]:
                for path, node in nodes_with_paths(tree):
                    for dot in range(len(node.children) + 1):
                        way = own_cut(grammar.rules, tree, path, dot)
                        item = (node.number, dot, behind_path(tree, path))
                        self.assertIn(item, items[self.state_by(states, way)])
                        count += 1
        self.assertGreater(count, 10000)

    def test_the_start_s_own_items_stand_in_their_states_alone(self):
        for grammar in CLEAN:
            states = States(grammar)
            for state in range(states.many()):
                self.assertIs((-1, 0, "$") in states.items(state), state == 0)
                self.assertIs((-1, 1, "$") in states.items(state), state == states.to(0, grammar.start))

    def test_states_of_equal_ways_are_equal(self):
        for grammar in CLEAN[:40]:
            states, own = States(grammar), OwnItems(grammar.rules)
            for length in range(4):
                for way in itertools.product(grammar.heads() + grammar.signs(), repeat=length):
                    items, state = own.closed([(-1, 0, "$")]), 0
                    for symbol in way:
                        items = own.led(items, symbol)
                        state = None if state is None else states.to(state, symbol)
                    self.assertEqual([] if state is None else states.items(state), items)
                if len(grammar.heads() + grammar.signs()) > 4:
                    break


class TestRefused(Refusing):

    def setUp(self):
        self.states = States(read_grammar(SUMS))

    def test_no_states(self):
        things = [thing for thing in all_things() if type(thing) is not int or not 0 <= thing < self.states.many()]
        for thing in things + [self.states.many(), -1, "0", 0.0, [0], (0,)]:
            for item in ((-1, 0, "$"), None, (0, 0, "zz")):
                self.refuses(NoState, "state", thing, paper_for, self.states, thing, item)

    def test_no_items(self):
        things = all_things() + [[-1, 0, "$"], (-1, 0), (-1, 0, "$", 0), (-1, 2, "$"), (0, 0, "zz"), (0, 9, "$")]
        things += [(thing, 0, "$") for thing in all_things() if type(thing) is not int or thing not in (-1, 0, 1, 2)]
        things += [(0, thing, "$") for thing in all_things() if type(thing) is not int or thing != 0]
        things += [(0, 0, thing) for thing in all_things() if type(thing) is not str or thing != "$"]
        things += [(EqualToAll(),) * 3, (-1.0, 0, "$"), (-1, False, "$"), (False, 0, "$"), (True, 0, "$"), (1.0, 0, "$")]
        for thing in things:
            self.refuses(NoItem, "found", thing, paper_for, self.states, 0, thing)

    def test_items_of_other_states(self):
        count = 0
        for state in range(self.states.many()):
            for item in own_items(self.states.grammar.rules):
                if item not in self.states.items(state):
                    self.refuses(NoItem, "found", item, paper_for, self.states, state, item)
                    count += 1
        self.assertGreater(count, 100)

    def test_items_of_several_states_only_where_they_stand(self):
        states = States(read_grammar("S : ( A ) | A\nA : a"))
        self.assertEqual(written(paper_for(states, 4, (2, 1, "$"))[0]), (1, (2, "a")))
        for state, item in ((6, (2, 1, "$")), (4, (2, 1, ")"))):
            self.refuses(NoItem, "found", item, paper_for, states, state, item)


class TestNothingChanges(Papers):

    def test_paths_told_are_the_askers_own(self):
        states = States(read_grammar(TERMS))
        for state in range(states.many()):
            for item in states.items(state):
                tree, path = paper_for(states, state, item)
                before = None if path is None else list(path)
                if path is not None:
                    path.append(5)
                again = paper_for(states, state, item)
                self.assertEqual(again[1], before)
                self.assertEqual(written(again[0]), written(tree))

    def test_the_same_of_another_made_alike(self):
        one, other = States(read_grammar(TERMS)), States(read_grammar(TERMS))
        for state in range(one.many()):
            for item in one.items(state):
                papers = [paper_for(states, state, item) for states in (one, other)]
                self.assertEqual(written(papers[0][0]), written(papers[1][0]))
                self.assertEqual(papers[0][1], papers[1][1])

    def test_states_stay_as_they_were(self):
        states = States(read_grammar(SUMS))
        before = [(states.items(state), states.way(state)) for state in range(states.many())]
        for state in range(states.many()):
            for item in states.items(state):
                paper_for(states, state, item)
            self.assertRaises(NoItem, paper_for, states, state, None)
        self.assertEqual([(states.items(state), states.way(state)) for state in range(states.many())], before)

    def test_items_that_are_changed_later(self):
        states = States(read_grammar(SUMS))
        told = states.items(0)
        told.append((0, 3, "n"))
        self.assertRaises(NoItem, paper_for, states, 0, (0, 3, "n"))

    def test_trees(self):
        states = States(read_grammar(FORTY))
        for state in range(states.many()):
            for item in states.items(state):
                tree = paper_for(states, state, item)[0]
                self.assertIs(type(tree), Node)
                self.assertEqual(tree.size(), count_of(tree))


if __name__ == "__main__":
    unittest.main()
