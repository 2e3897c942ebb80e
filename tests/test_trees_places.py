"""[4], [35], [6]: the cut of a tree at a place, and what stands behind a place."""

import unittest

from rulestable.errors import NoPlace, NoTree
from rulestable.grammartext import read_grammar
from rulestable.trees import Leaf, Node, behind_of, cut_of
from tests.growing import (behind_path, deep_tree, example, nodes_with_paths, small_trees, some_grammars, wide_tree,
                           written)
from tests.refusing import Refusing
from tests.things import far_numbers, no_words, other_things, truths

GRAMMAR = read_grammar("S : A b S | ~\nA : a A | A A A A | ~")


def wrong_paths():
    """Things that are no path of the example."""
    no_lists = [thing for thing in other_things() if not isinstance(thing, list)]
    in_lists = [[thing] for thing in other_things() + truths() + far_numbers() + no_words()]
    return no_lists + in_lists + truths() + far_numbers() + no_words() + [
        [3], [-1], [0, 2], [0, -1], [1, 0], [0, 0, 0], [0, 1, 0], [2, 3], [2, True], (), (0,), 0, "0"]


def cut_by_paths(rules, tree, path, dot):
    """The cut by another way: of all places, those right beneath the path, or beneath its end, that lie to the left."""
    told = []
    for length in range(len(path) + 1):
        above = tree
        for place in path[:length]:
            above = above.children[place]
        stop = path[length] if length < len(path) else dot
        for place in range(stop):
            child = above.children[place]
            told.append(child.sign if isinstance(child, Leaf) else rules[child.number][0])
    return told


class TestCut(unittest.TestCase):

    def test_at_the_root(self):
        for dot, told in enumerate(([], ["A"], ["A", "b"], ["A", "b", "S"])):
            self.assertEqual(cut_of(GRAMMAR, example(), [], dot), told)

    def test_below(self):
        for path, dot, told in (([0], 0, []), ([0], 1, ["a"]), ([0], 2, ["a", "A"]), ([0, 1], 0, ["a"]),
                                ([2], 0, ["A", "b"]), ([2], 1, ["A", "b", "A"]), ([2], 2, ["A", "b", "A", "b"]),
                                ([2], 3, ["A", "b", "A", "b", "S"]), ([2, 0], 0, ["A", "b"]),
                                ([2, 2], 0, ["A", "b", "A", "b"])):
            self.assertEqual(cut_of(GRAMMAR, example(), path, dot), told)

    def test_a_node_without_children(self):
        self.assertEqual(cut_of(GRAMMAR, Node(1, []), [], 0), [])

    def test_small_trees_at_each_place(self):
        for grammar in some_grammars(40):
            for tree in small_trees(grammar.rules, 7, 4)[grammar.start]:
                for path, node in nodes_with_paths(tree):
                    for dot in range(len(node.children) + 1):
                        self.assertEqual(cut_of(grammar, tree, list(path), dot),
                                         cut_by_paths(grammar.rules, tree, path, dot))

    def test_leaves_of_any_text_tell_it(self):
        tree = Node(0, [Leaf("zz"), Leaf("S"), Leaf("$")])
        self.assertEqual(cut_of(GRAMMAR, tree, [], 3), ["zz", "S", "$"])

    def test_trees_that_fit_no_rule_are_cut_too(self):
        tree = Node(19, [Node(0, []), Node(2, [Leaf("a")] * 6), Leaf("c")])
        self.assertEqual(cut_of(GRAMMAR, tree, [1], 6), ["S"] + ["a"] * 6)

    def test_deep(self):
        tree = Leaf("a")
        for turn in range(499):
            tree = Node(0, [Leaf("b"), tree, Node(1, []), Leaf("c")])
        self.assertEqual(cut_of(GRAMMAR, tree, [1] * 498, 4), ["b"] * 499 + ["a", "S", "c"])

    def test_what_is_handed_in_is_not_changed(self):
        path, tree = [2, 2], example()
        told = cut_of(GRAMMAR, tree, path, 0)
        told.clear()
        self.assertEqual((path, written(tree)), ([2, 2], written(example())))
        self.assertEqual(cut_of(GRAMMAR, tree, path, 0), ["A", "b", "A", "b"])
        self.assertIs(type(cut_of(GRAMMAR, tree, [], 0)), list)


class TestCutRefused(Refusing):

    def test_no_path(self):
        tree = example()
        for thing in wrong_paths():
            self.refuses(NoPlace, "place", thing, cut_of, GRAMMAR, tree, thing, 0)

    def test_a_path_to_a_leaf(self):
        tree = example()
        for path in ([1], [0, 0], [2, 1]):
            for dot in (0, 1, -1, None):
                self.refuses(NoPlace, "place", path, cut_of, GRAMMAR, tree, path, dot)
        path = []
        self.refuses(NoPlace, "place", path, cut_of, GRAMMAR, Leaf("a"), path, 0)

    def test_no_dot(self):
        tree = example()
        for thing in other_things() + truths() + far_numbers() + no_words() + [-1, "0", "1", [0], 0.0, 1.0]:
            for path in ([], [0], [2, 0]):
                self.refuses(NoPlace, "place", thing, cut_of, GRAMMAR, tree, path, thing)
        for path, dot in (([], 4), ([0], 3), ([0, 1], 1), ([2], 4), ([2, 2], 1), ([], 5)):
            self.refuses(NoPlace, "place", dot, cut_of, GRAMMAR, tree, path, dot)

    def test_a_symbol_that_is_not_there(self):
        first, second, third = Node(5, []), Node(19, [Leaf("a")]), Node(6, [])
        tree = Node(0, [first, Node(0, [Leaf("b"), second, third]), Leaf("c")])
        self.refuses(NoTree, "found", first, cut_of, GRAMMAR, tree, [], 1)
        self.refuses(NoTree, "found", first, cut_of, GRAMMAR, tree, [], 3)
        self.refuses(NoTree, "found", first, cut_of, GRAMMAR, tree, [1], 0)
        self.refuses(NoTree, "found", first, cut_of, GRAMMAR, tree, [1], 3)
        later = Node(0, [Leaf("a"), Node(0, [Leaf("b"), second, third]), first])
        self.refuses(NoTree, "found", second, cut_of, GRAMMAR, later, [1], 2)
        self.refuses(NoTree, "found", second, cut_of, GRAMMAR, later, [1], 3)
        self.refuses(NoTree, "found", second, cut_of, GRAMMAR, later, [1, 2], 0)
        self.refuses(NoTree, "found", first, cut_of, GRAMMAR, later, [], 3)

    def test_only_those_that_are_told_are_looked_at(self):
        bad = Node(19, [Leaf("a"), Node(17, [])])
        self.assertEqual(cut_of(GRAMMAR, bad, [], 1), ["a"])
        self.assertEqual(cut_of(GRAMMAR, Node(0, [Leaf("a"), bad]), [], 1), ["a"])
        self.assertEqual(cut_of(GRAMMAR, Node(0, [Leaf("b"), bad, bad]), [1], 1), ["b", "a"])
        self.assertEqual(cut_of(GRAMMAR, Node(0, [Node(2, [bad])]), [], 1), ["A"])

    def test_which_goes_first(self):
        bad = Node(0, [Node(19, []), Leaf("a")])
        for path in ([2], [True], "x", (0,), [1], [0, 0]):
            for dot in (None, 9, -1, True, [], 0):
                self.refuses(NoPlace, "place", path, cut_of, GRAMMAR, bad, path, dot)
        for dot in (None, 3, -1, True, [], "0"):
            self.refuses(NoPlace, "place", dot, cut_of, GRAMMAR, bad, [], dot)
            self.refuses(NoPlace, "place", dot, cut_of, GRAMMAR, bad, [0], dot)
        self.refuses(NoTree, "found", bad.children[0], cut_of, GRAMMAR, bad, [], 1)


class TestBehind(Refusing):

    def test_each_place_of_the_example(self):
        for path, told in (([], "$"), ([0], "b"), ([0, 0], "b"), ([0, 1], "b"), ([1], "b"), ([2], "$"), ([2, 0], "b"),
                           ([2, 1], "$"), ([2, 2], "$")):
            self.assertEqual(behind_of(example(), path), told)

    def test_the_root_alone(self):
        self.assertEqual(behind_of(Leaf("a"), []), "$")
        self.assertEqual(behind_of(Node(0, []), []), "$")

    def test_past_trees_without_leaves(self):
        empty = Node(1, [Node(2, []), Node(3, [Node(4, [])])])
        tree = Node(0, [Node(5, [Leaf("a"), empty]), empty, Node(6, [empty, Node(7, [empty, Leaf("c")])]), Leaf("d")])
        for path, told in (([0], "c"), ([0, 0], "c"), ([0, 1], "c"), ([1], "c"), ([2], "d"), ([2, 0], "c"), ([2, 1], "d"),
                           ([2, 1, 0], "c"), ([2, 1, 1], "d"), ([0, 1, 1, 0], "c"), ([3], "$")):
            self.assertEqual(behind_of(tree, path), told)

    def test_small_trees_at_each_place(self):
        for grammar in some_grammars(60):
            for tree in small_trees(grammar.rules, 8, 5)[grammar.start]:
                for path, node in nodes_with_paths(tree):
                    self.assertEqual(behind_of(tree, list(path)), behind_path(tree, path))
                    for place in range(len(node.children)):
                        whole = list(path) + [place]
                        self.assertEqual(behind_of(tree, whole), behind_path(tree, whole))

    def test_deep_and_great(self):
        for depth in (500, 501, 3000):
            tree = Node(0, [deep_tree(depth - 1), Leaf("b")])
            self.assertEqual(behind_of(tree, [0] * (depth - 1)), "b")
            self.assertEqual(behind_of(deep_tree(depth), [0] * (depth - 1)), "$")
        tree = Node(0, [Leaf("b"), wide_tree(4200)])
        self.assertEqual(behind_of(tree, [0]), "a")
        self.assertEqual(behind_of(tree, [1]), "$")

    def test_no_path(self):
        tree = example()
        for thing in wrong_paths():
            self.refuses(NoPlace, "place", thing, behind_of, tree, thing)
        for path in ([0], [-1], [True], None, (), 0):
            self.refuses(NoPlace, "place", path, behind_of, Leaf("a"), path)
            self.refuses(NoPlace, "place", path, behind_of, Node(0, []), path)

    def test_what_is_handed_in_is_not_changed(self):
        path, tree = [0, 1], example()
        for turn in range(2):
            self.assertEqual(behind_of(tree, path), "b")
        self.assertEqual((path, written(tree)), ([0, 1], written(example())))


if __name__ == "__main__":
    unittest.main()
