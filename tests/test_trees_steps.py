"""[3], [34], [36], [37], [6]: trees of symbols, the steps of trees, and trees by steps."""

import itertools
import unittest

from rulestable.grammartext import read_grammar
from rulestable.trees import Leaf, Node, alike, is_tree, put_in, steps_of, tree_by
from tests.growing import (deep_tree, example, go_down, is_great, nodes_with_paths, small_trees, some_grammars,
                           wide_tree, written)
from tests.things import EqualToAll, far_numbers, no_words, other_things, truths

GRAMMAR = read_grammar("S : A b S | ~\nA : a A | A A A A | ~")
LONG = read_grammar("E : E E E E | E a a a | a")
CHAIN = read_grammar("E : E | a")


def chain(depth):
    """A tree of CHAIN so deep."""
    tree = Node(1, [Leaf("a")])
    for turn in range(depth - 2):
        tree = Node(0, [tree])
    return tree


def tells_tree(rules, symbol, tree):
    """Whether a tree goes down rightly, by the tests' own going down."""
    try:
        go_down(unittest.TestCase(), rules, symbol, tree)
    except AssertionError:
        return False
    return True


class TestIsTree(unittest.TestCase):

    def test_the_example(self):
        self.assertIs(is_tree(GRAMMAR, "S", example()), True)
        for symbol in ("A", "a", "b", "$", "", "Z"):
            self.assertIs(is_tree(GRAMMAR, symbol, example()), False)

    def test_leaves(self):
        for sign in ("a", "b", "zz", "+"):
            self.assertIs(is_tree(GRAMMAR, sign, Leaf(sign)), True)
            for symbol in ("S", "A", "c", "aa", "", "$", "Z"):
                self.assertIs(is_tree(GRAMMAR, symbol, Leaf(sign)), False)

    def test_a_leaf_is_no_tree_of_a_head(self):
        for head in ("S", "A", "Z"):
            self.assertIs(is_tree(GRAMMAR, head, Leaf(head)), False)
        self.assertIs(is_tree(GRAMMAR, "S", put_in(example(), [2], Leaf("S"))), False)
        self.assertIs(is_tree(GRAMMAR, "S", put_in(example(), [0, 1], Leaf("A"))), False)

    def test_nothing_is_a_tree_of_what_is_no_symbol(self):
        for text in no_words():
            for thing in (Leaf(text), Leaf("a"), example(), Node(0, []), text, None):
                self.assertIs(is_tree(GRAMMAR, text, thing), False)

    def test_any_thing(self):
        for thing in other_things() + truths() + far_numbers() + no_words() + [0, "a", "S", "{1}", Leaf, Node, GRAMMAR]:
            for symbol in ("S", "A", "a", "b", "c", "Z", "", "$"):
                self.assertIs(is_tree(GRAMMAR, symbol, thing), False)

    def test_nodes_of_things_that_are_no_trees(self):
        for thing in other_things() + truths() + no_words() + [0, "a"]:
            self.assertIs(is_tree(GRAMMAR, "A", Node(2, [Leaf("a"), thing])), False)
            self.assertIs(is_tree(GRAMMAR, "A", Node(2, [thing, Node(4, [])])), False)
            self.assertIs(is_tree(GRAMMAR, "A", Node(thing, [])), False)
        self.assertIs(is_tree(GRAMMAR, "S", Node(True, [])), False)
        for thing in (1, None, True, EqualToAll(), ["a"]):
            self.assertIs(is_tree(GRAMMAR, "a", Leaf(thing)), False)

    def test_each_change_of_one_place(self):
        for path in ([0], [1], [2], [0, 0], [0, 1], [2, 0], [2, 1], [2, 2]):
            for other in (Leaf("c"), Node(3, []), Node(0, []), Node(1, [Leaf("a")]), Node(19, []), Node(5, [])):
                self.assertIs(is_tree(GRAMMAR, "S", put_in(example(), path, other)), False)
        self.assertIs(is_tree(GRAMMAR, "S", put_in(example(), [0], Node(4, []))), True)
        self.assertIs(is_tree(GRAMMAR, "S", put_in(example(), [2, 2], example())), True)

    def test_as_many_children_as_symbols(self):
        self.assertIs(is_tree(GRAMMAR, "S", Node(0, [Node(4, []), Leaf("b")])), False)
        self.assertIs(is_tree(GRAMMAR, "S", Node(0, [Node(4, []), Leaf("b"), Node(1, []), Node(1, [])])), False)
        self.assertIs(is_tree(GRAMMAR, "S", Node(0, [Leaf("b"), Node(4, []), Node(1, [])])), False)

    def test_numbers_that_the_grammar_does_not_have(self):
        for number in (5, 19, 20, -1, -5, -4):
            for symbol in ("S", "A"):
                self.assertIs(is_tree(GRAMMAR, symbol, Node(number, [])), False)

    def test_small_trees_of_other_grammars(self):
        grammars = some_grammars(12, 9)
        trees = []
        for grammar in grammars:
            for head, found in small_trees(grammar.rules, 6, 2).items():
                trees.extend(found)
        for grammar in grammars:
            for symbol in grammar.heads() + ["a", "Zz"]:
                for tree in trees + [Leaf("a")]:
                    self.assertIs(is_tree(grammar, symbol, tree), tells_tree(grammar.rules, symbol, tree))

    def test_deep_and_great(self):
        for depth in (2, 500, 501, 4000):
            self.assertIs(is_tree(CHAIN, "E", chain(depth)), True)
            self.assertIs(is_tree(CHAIN, "E", put_in(chain(depth), [0] * (depth - 1), Leaf("b"))), False)
            self.assertIs(is_tree(CHAIN, "E", deep_tree(depth, 0)), False)
        self.assertIs(is_tree(LONG, "E", wide_tree(4200)), True)

    def test_the_same_tree_at_several_places(self):
        part = Node(2, [Leaf("a"), Node(4, [])])
        self.assertIs(is_tree(GRAMMAR, "A", Node(3, [part, part, part, part])), True)


class TestSteps(unittest.TestCase):

    def test_the_example(self):
        self.assertEqual(steps_of(example()), [
            ("shift", "a"), ("reduce", 4), ("reduce", 2), ("shift", "b"), ("reduce", 4), ("shift", "b"), ("reduce", 1),
            ("reduce", 0), ("reduce", 0)])

    def test_one_step(self):
        self.assertEqual(steps_of(Leaf("a")), [("shift", "a")])
        self.assertEqual(steps_of(Node(7, [])), [("reduce", 7)])

    def test_children_from_the_left(self):
        tree = Node(0, [Leaf("a"), Leaf("b"), Node(1, [Leaf("c"), Leaf("d")]), Leaf("e")])
        self.assertEqual(steps_of(tree), [("shift", "a"), ("shift", "b"), ("shift", "c"), ("shift", "d"), ("reduce", 1),
                                          ("shift", "e"), ("reduce", 0)])

    def test_unlike_trees_have_unlike_steps(self):
        for grammar in some_grammars(60):
            found = small_trees(grammar.rules, 7, 30)
            trees = [tree for head in found for tree in found[head]]
            steps = {tuple(steps_of(tree)) for tree in trees}
            self.assertEqual(len(steps), len({written(tree) for tree in trees}))

    def test_as_many_steps_as_leaves_and_nodes(self):
        for tree in (example(), wide_tree(4200), deep_tree(500), deep_tree(501)):
            steps = steps_of(tree)
            self.assertEqual(len(steps), tree.size())
            self.assertEqual([sign for word, sign in steps if word == "shift"], tree.signs())

    def test_lists_told_and_changed(self):
        tree = example()
        steps_of(tree).clear()
        self.assertEqual(len(steps_of(tree)), 9)
        self.assertIs(type(steps_of(tree)), list)
        self.assertTrue(all(type(step) is tuple for step in steps_of(tree)))
        self.assertIsNot(steps_of(tree), steps_of(tree))


class TestTreeBy(unittest.TestCase):

    def test_there_and_back(self):
        self.assertIs(alike(tree_by(GRAMMAR, steps_of(example())), example()), True)
        for sign in ("a", "b", "zz", "+"):
            self.assertIs(alike(tree_by(GRAMMAR, [("shift", sign)]), Leaf(sign)), True)
        for grammar in some_grammars(80):
            for head, trees in small_trees(grammar.rules, 7, 6).items():
                for tree in trees:
                    self.assertIs(alike(tree_by(grammar, steps_of(tree)), tree), True)

    def test_deep_and_great_there_and_back(self):
        for depth in (500, 501, 3000):
            self.assertIs(alike(tree_by(CHAIN, steps_of(chain(depth))), chain(depth)), True)
        self.assertIs(alike(tree_by(LONG, steps_of(wide_tree(4200))), wide_tree(4200)), True)

    def test_none_or_several_at_the_end(self):
        self.assertIsNone(tree_by(GRAMMAR, []))
        self.assertIsNone(tree_by(GRAMMAR, [("shift", "a"), ("shift", "a")]))
        self.assertIsNone(tree_by(GRAMMAR, [("reduce", 4), ("reduce", 1)]))
        self.assertIsNone(tree_by(GRAMMAR, steps_of(example()) + [("reduce", 1)]))
        self.assertIsNone(tree_by(GRAMMAR, steps_of(example())[:-1]))
        self.assertIsNone(tree_by(GRAMMAR, [("shift", "a")] * 50000))

    def test_what_a_step_wants_is_not_there(self):
        self.assertIsNone(tree_by(GRAMMAR, [("reduce", 0)]))
        self.assertIsNone(tree_by(GRAMMAR, [("reduce", 4), ("reduce", 2)]))
        self.assertIsNone(tree_by(GRAMMAR, [("reduce", 4), ("shift", "a"), ("reduce", 2)]))
        self.assertIsNone(tree_by(GRAMMAR, [("shift", "b"), ("reduce", 4), ("reduce", 2)]))
        self.assertIsNone(tree_by(GRAMMAR, [("shift", "a"), ("reduce", 1), ("reduce", 2)]))
        self.assertIsNone(tree_by(GRAMMAR, [("reduce", 4)] * 3 + [("reduce", 3)]))
        self.assertIsNone(tree_by(GRAMMAR, [("reduce", 4)] * 3 + [("reduce", 1), ("reduce", 3)]))
        self.assertEqual(written(tree_by(GRAMMAR, [("reduce", 4)] * 4 + [("reduce", 3)])), (3, (4,), (4,), (4,), (4,)))
        self.assertEqual(written(tree_by(GRAMMAR, [("reduce", 4)])), (4,))

    def test_the_last_trees_are_taken_in_their_order(self):
        grammar = read_grammar("E : a b | c E d | E E")
        steps = [("shift", "c"), ("shift", "a"), ("shift", "b"), ("reduce", 0), ("shift", "d"), ("reduce", 1)]
        self.assertEqual(written(tree_by(grammar, steps)), (1, "c", (0, "a", "b"), "d"))
        both = [("shift", "a"), ("shift", "b"), ("reduce", 0)] + steps + [("reduce", 2)]
        self.assertEqual(written(tree_by(grammar, both)), (2, (0, "a", "b"), (1, "c", (0, "a", "b"), "d")))
        self.assertIsNone(tree_by(grammar, [("shift", "b"), ("shift", "a"), ("reduce", 0)]))

    def test_a_tuple_that_is_no_step(self):
        anything = other_things() + truths() + far_numbers() + no_words() + ["S", "A"]
        for thing in anything:
            for steps in ([("shift", thing)], [("shift", thing), ("reduce", 1)]):
                self.assertIsNone(tree_by(GRAMMAR, steps))
            self.assertIsNone(tree_by(GRAMMAR, [("reduce", thing)]))
            self.assertIsNone(tree_by(GRAMMAR, [("reduce", 1), ("reduce", thing)]))
            self.assertIsNone(tree_by(GRAMMAR, [(thing, "a")]))
            self.assertIsNone(tree_by(GRAMMAR, [(thing, 4)]))
            self.assertIsNone(tree_by(GRAMMAR, [(thing, thing)]))
        for step in (("Shift", "a"), ("shift ", "a"), ("accept", "a"), ("reduce", "4"), ("reduce", "a"), ("shift", 4),
                     ("reduce", 5), ("reduce", -1), ("reduce", 19), ("reduce", 4.0), ("reduce", True), ("reduce", False)):
            self.assertIsNone(tree_by(GRAMMAR, [step]))

    def test_tuples_of_other_lengths(self):
        for step in ((), ("shift",), ("reduce",), ("shift", "a", "b"), ("reduce", 4, 4), ("reduce", 4, None)):
            self.assertIsNone(tree_by(GRAMMAR, [step]))

    def test_wrong_steps_among_right_ones(self):
        steps = steps_of(example())
        for place in range(len(steps) + 1):
            for step in (("shift", "S"), ("reduce", 9), ("keep", "a"), ("reduce", None), (None, None)):
                self.assertIsNone(tree_by(GRAMMAR, steps[:place] + [step] + steps[place:]))

    def test_every_short_list_of_steps(self):
        grammar = read_grammar("E : E E | a | ~")
        kinds = [("shift", "a"), ("shift", "b"), ("reduce", 0), ("reduce", 1), ("reduce", 2), ("reduce", 3)]
        trees = small_trees(grammar.rules, 5, 1000)["E"] + [Leaf("a"), Leaf("b")]
        known = {tuple(steps_of(tree)): written(tree) for tree in trees}
        for length in range(6):
            for steps in itertools.product(kinds, repeat=length):
                told = tree_by(grammar, list(steps))
                self.assertEqual(None if told is None else written(told), known.get(steps))

    def test_what_is_told_is_a_tree_of_a_symbol(self):
        for grammar in some_grammars(20):
            for head, trees in small_trees(grammar.rules, 6, 3).items():
                for tree in trees:
                    go_down(self, grammar.rules, head, tree_by(grammar, steps_of(tree)))
                    self.assertTrue(is_great(head))

    def test_what_is_handed_in_is_not_changed(self):
        steps = steps_of(example())
        kept = list(steps)
        told = tree_by(GRAMMAR, steps)
        self.assertEqual(steps, kept)
        steps.clear()
        self.assertEqual(written(told), written(example()))
        self.assertEqual(written(tree_by(GRAMMAR, kept)), written(told))
        self.assertEqual(len(list(nodes_with_paths(told))), 6)


if __name__ == "__main__":
    unittest.main()
