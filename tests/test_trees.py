"""[31], [32], [33], [5], [6]: what trees have and tell, the trees at paths, and trees that are alike."""

import copy
import unittest

from rulestable.errors import NoPlace, NoTree
from rulestable.grammartext import read_grammar
from rulestable.trees import Leaf, Node, Tree, alike, put_in
from tests.growing import (count_of, deep_tree, example, nodes_with_paths, part_at, row_of, small_trees, wide_tree,
                           written)
from tests.refusing import Refusing
from tests.things import far_numbers, no_words, other_things, truths

RULES = [("S", ("A", "b", "S")), ("S", ()), ("A", ("a", "A")), ("A", ("A", "A", "A", "A")), ("A", ())]
GRAMMAR = read_grammar("S : A b S | ~\nA : a A | A A A A | ~")


def all_small():
    found = small_trees(RULES, 12, 20)
    return found["S"] + found["A"] + [Leaf("a"), Leaf("b")]


class TestKinds(unittest.TestCase):

    def test_classes(self):
        self.assertEqual((Leaf.__bases__, Node.__bases__), ((Tree,), (Tree,)))
        self.assertIsInstance(Leaf("a"), Tree)
        self.assertIsInstance(Node(0, []), Tree)

    def test_fields(self):
        self.assertEqual(Leaf("a").sign, "a")
        one, other = Leaf("a"), Node(19, [])
        for children in ([one, other], (one, other)):
            node = Node(3, children)
            self.assertEqual(node.number, 3)
            self.assertIs(type(node.children), tuple)
            self.assertEqual(len(node.children), 2)
            self.assertIs(node.children[0], one)
            self.assertIs(node.children[1], other)
        self.assertEqual((Node(0, []).children, Node(0, ()).children, other.number), ((), (), 19))

    def test_leaves_of_other_texts(self):
        for text in no_words() + ["E", "$", "", "{0}"]:
            leaf = Leaf(text)
            self.assertEqual(leaf.sign, text)
            self.assertEqual((leaf.signs(), leaf.size(), leaf.depth(), leaf.is_leaf()), ([text], 1, 1, True))
            self.assertEqual(leaf.symbol_in(GRAMMAR), text)

    def test_none_to_four_children_and_somewhat_more(self):
        for count in range(7):
            node = Node(0, [Leaf("a")] * count)
            self.assertEqual((len(node.children), node.size(), node.depth()), (count, count + 1, 2 if count else 1))

    def test_is_leaf(self):
        self.assertIs(Leaf("a").is_leaf(), True)
        self.assertIs(Node(0, []).is_leaf(), False)
        self.assertIs(example().is_leaf(), False)


class TestTold(Refusing):

    def test_signs(self):
        self.assertEqual(example().signs(), ["a", "b", "b"])
        self.assertEqual(Leaf("zz").signs(), ["zz"])
        self.assertEqual(Node(0, []).signs(), [])
        self.assertEqual(Node(0, [Node(1, []), Node(2, [Node(3, [])])]).signs(), [])
        self.assertEqual(Node(0, [Leaf("a"), Node(1, [Leaf("b"), Leaf("c")]), Leaf("d"), Leaf("e")]).signs(), list("abcde"))

    def test_size_and_depth(self):
        self.assertEqual((example().size(), example().depth()), (9, 3))
        self.assertEqual((Leaf("a").size(), Leaf("a").depth()), (1, 1))
        self.assertEqual((Node(0, []).size(), Node(0, []).depth()), (1, 1))
        self.assertEqual((Node(0, [Leaf("a")]).size(), Node(0, [Leaf("a")]).depth()), (2, 2))
        low, high = Node(0, [Node(0, [Node(0, [])])]), Leaf("a")
        for children in ([low, high, high, high], [high, low, high], [high, high, high, low]):
            self.assertEqual((Node(0, children).size(), Node(0, children).depth()), (len(children) + 3, 4))

    def test_small_trees(self):
        self.assertGreater(len(all_small()), 60)
        for tree in all_small():
            self.assertEqual(tree.signs(), row_of(tree))
            self.assertEqual(tree.size(), count_of(tree))
            deepest = max([len(path) + 1 + (len(node.children) > 0) for path, node in nodes_with_paths(tree)], default=1)
            self.assertEqual(tree.depth(), deepest)

    def test_symbols(self):
        self.assertEqual([Node(number, []).symbol_in(GRAMMAR) for number in range(5)], ["S", "S", "A", "A", "A"])
        self.assertEqual(Leaf("a").symbol_in(GRAMMAR), "a")
        self.assertEqual(Leaf("zz").symbol_in(GRAMMAR), "zz")
        self.assertEqual(Leaf("S").symbol_in(GRAMMAR), "S")

    def test_a_symbol_hangs_on_the_root_alone(self):
        self.assertEqual(Node(4, [Leaf("a"), Node(19, [])]).symbol_in(GRAMMAR), "A")

    def test_numbers_that_the_grammar_does_not_have(self):
        one_rule = read_grammar("E : a")
        for number in (5, 6, 19, 20, 99):
            node = Node(number, [Leaf("a")])
            self.refuses(NoTree, "found", node, node.symbol_in, GRAMMAR)
            self.refuses(NoTree, "found", node, node.symbol_in, one_rule)
        node = Node(1, [])
        self.refuses(NoTree, "found", node, node.symbol_in, one_rule)
        self.assertEqual(Node(0, []).symbol_in(one_rule), "E")

    def test_twenty_rules(self):
        grammar = read_grammar("E : " + " | ".join(f"{one} {other}" for one in "abcd" for other in "vwxyz"))
        self.assertEqual(Node(19, []).symbol_in(grammar), "E")
        node = Node(20, [])
        self.refuses(NoTree, "found", node, node.symbol_in, grammar)


class TestPaths(Refusing):

    def test_the_tree_itself(self):
        for tree in (example(), Leaf("a"), Node(0, [])):
            self.assertIs(tree.at([]), tree)

    def test_each_place(self):
        tree = example()
        self.assertIs(tree.at([0]), tree.children[0])
        self.assertIs(tree.at([2]), tree.children[2])
        self.assertIs(tree.at([0, 0]), tree.children[0].children[0])
        self.assertIs(tree.at([2, 1]), tree.children[2].children[1])
        for small in all_small():
            for path, node in nodes_with_paths(small):
                self.assertIs(small.at(list(path)), node)
                for place, child in enumerate(node.children):
                    self.assertIs(small.at(list(path) + [place]), child)

    def wrong_paths(self):
        no_lists = [thing for thing in other_things() if not isinstance(thing, list)]
        in_lists = [[thing] for thing in other_things() + truths() + far_numbers() + no_words()]
        below = [[2, thing] for thing in other_things() + truths() + far_numbers()]
        behind = [[thing, 0] for thing in other_things() + truths()]
        more = [[3], [4], [-1], [-3], [0, 2], [0, -1], [1, 0], [0, 0, 0], [0, 1, 0], [2, 2, 0], [2, 3], [0.0], ["0"], "", "0",
                (), (0,), {}, {0: 0}, 0, 1, None, range(0), [None], [[]], [[0]], [(0,)], [0, [0]]]
        return no_lists + in_lists + below + behind + truths() + far_numbers() + no_words() + more

    def test_what_leads_to_no_place(self):
        tree = example()
        for thing in self.wrong_paths():
            self.refuses(NoPlace, "place", thing, tree.at, thing)

    def test_what_leads_to_no_place_for_another_tree(self):
        tree = example()
        for thing in self.wrong_paths():
            self.refuses(NoPlace, "place", thing, put_in, tree, thing, Leaf("c"))
        self.assertEqual(written(tree), written(example()))

    def test_nothing_is_below_a_leaf_or_a_node_without_children(self):
        for tree in (Leaf("a"), Node(0, [])):
            for path in ([0], [-1], [1], [0, 0], [False], [None]):
                self.refuses(NoPlace, "place", path, tree.at, path)
                self.refuses(NoPlace, "place", path, put_in, tree, path, Leaf("b"))

    def test_a_path_is_not_changed(self):
        path = [2, 1]
        example().at(path)
        put_in(example(), path, Leaf("c"))
        self.assertEqual(path, [2, 1])


class TestPutIn(unittest.TestCase):

    def test_at_the_root(self):
        tree, other = example(), Leaf("c")
        self.assertIs(put_in(tree, [], other), other)
        self.assertIs(put_in(Leaf("a"), [], tree), tree)

    def test_below(self):
        tree, other = example(), Node(7, [Leaf("x"), Leaf("y")])
        told = put_in(tree, [2, 1], other)
        self.assertEqual(written(told), (0, (2, "a", (4,)), "b", (0, (4,), (7, "x", "y"), (1,))))
        self.assertIs(told.at([2, 1]), other)
        self.assertEqual((told.signs(), told.size(), told.depth()), (["a", "b", "x", "y"], 11, 4))
        self.assertEqual(written(put_in(tree, [0], Leaf("z"))), (0, "z", "b", (0, (4,), "b", (1,))))
        self.assertEqual(written(tree), written(example()))

    def test_at_each_place_of_small_trees(self):
        other = Node(9, [Leaf("new")])
        for tree in all_small():
            before = written(tree)
            for path, node in nodes_with_paths(tree):
                for place in range(len(node.children)):
                    whole = list(path) + [place]
                    told = put_in(tree, whole, other)
                    self.assertIs(told.at(whole), other)
                    self.assertEqual(written(put_in(told, whole, node.children[place])), before)
                    self.assertEqual(told.size(), tree.size() - count_of(node.children[place]) + 2)
                    for far, kept in nodes_with_paths(tree):
                        if far != tuple(whole)[:len(far)] and tuple(whole) != far[:len(whole)]:
                            self.assertEqual(written(part_at(told, far)), written(kept))
                            self.assertEqual(part_at(told, far).number, kept.number)
                    for length in range(len(whole)):
                        self.assertEqual(part_at(told, whole[:length]).number, part_at(tree, whole[:length]).number)
            self.assertEqual(written(tree), before)

    def test_a_tree_in_itself(self):
        tree = example()
        told = put_in(tree, [2, 2], tree)
        self.assertEqual((told.size(), told.signs()), (17, list("abbabb")))
        self.assertEqual(tree.size(), 9)

    def test_numbers_and_children_beyond_the_bounds(self):
        tree = Node(77, [Leaf("a")] * 6)
        self.assertEqual(written(put_in(tree, [5], Leaf("b"))), (77, "a", "a", "a", "a", "a", "b"))


class TestAlike(unittest.TestCase):

    def test_leaves(self):
        self.assertIs(alike(Leaf("a"), Leaf("a")), True)
        self.assertIs(alike(Leaf("a"), Leaf("b")), False)
        self.assertIs(alike(Leaf("a"), Leaf("aa")), False)
        self.assertIs(alike(Leaf("E"), Leaf("E")), True)

    def test_nodes(self):
        self.assertIs(alike(example(), example()), True)
        self.assertIs(alike(Node(0, []), Node(0, ())), True)
        self.assertIs(alike(Node(0, []), Node(1, [])), False)
        self.assertIs(alike(Node(0, []), Node(0, [Leaf("a")])), False)
        self.assertIs(alike(Node(0, [Leaf("a")]), Node(0, [])), False)
        self.assertIs(alike(Node(0, [Leaf("a"), Leaf("b")]), Node(0, [Leaf("b"), Leaf("a")])), False)
        self.assertIs(alike(Node(0, [Leaf("a")]), Node(0, [Leaf("a"), Leaf("a")])), False)

    def test_a_leaf_and_a_node(self):
        self.assertIs(alike(Leaf("0"), Node(0, [])), False)
        self.assertIs(alike(Node(0, []), Leaf("0")), False)
        self.assertIs(alike(Node(0, [Leaf("a")]), Node(0, [Node(0, [])])), False)

    def test_each_change_of_one_place(self):
        for path in ([0], [1], [2], [0, 0], [0, 1], [2, 0], [2, 1], [2, 2]):
            self.assertIs(alike(example(), put_in(example(), path, Node(9, []))), False)
            self.assertIs(alike(put_in(example(), path, Leaf("z")), example()), False)
            self.assertIs(alike(put_in(example(), path, example().at(path)), example()), True)

    def test_small_trees(self):
        trees = all_small()
        for one in trees:
            for other in trees:
                self.assertIs(alike(one, other), written(one) == written(other))

    def test_made_another_way(self):
        shared = Node(4, [])
        self.assertIs(alike(Node(3, [shared, shared, shared, shared]), Node(3, [Node(4, ()) for turn in range(4)])), True)


class TestOneTreeAtSeveralPlaces(unittest.TestCase):

    def test_it_is_as_many_trees(self):
        part = Node(2, [Leaf("a"), Node(4, [])])
        tree = Node(3, [part, part, part, part])
        self.assertEqual((tree.size(), tree.depth(), tree.signs()), (13, 3, ["a"] * 4))
        for place in range(4):
            self.assertIs(tree.at([place]), part)

    def test_putting_another_in_changes_one_place_alone(self):
        part = Node(2, [Leaf("a"), Node(4, [])])
        tree = Node(3, [part, part, part, part])
        told = put_in(tree, [1, 0], Leaf("z"))
        self.assertEqual((told.signs(), tree.signs(), part.signs()), (["a", "z", "a", "a"], ["a"] * 4, ["a"]))

    def test_doubled_again_and_again(self):
        tree = Leaf("a")
        for turn in range(12):
            tree = Node(0, [tree, tree])
        self.assertEqual((tree.size(), tree.depth(), len(tree.signs())), (8191, 13, 4096))
        other = Leaf("a")
        for turn in range(12):
            other = Node(0, [other, Node(0, other.children) if not other.is_leaf() else Leaf("a")])
        self.assertIs(alike(tree, other), True)
        self.assertIs(alike(tree, put_in(tree, [1] * 12, Leaf("b"))), False)

    def test_size_and_depth_beyond_all_bounds(self):
        tree = Leaf("a")
        for turn in range(300):
            tree = Node(0, [tree, tree])
        self.assertEqual((tree.size(), tree.depth()), (2 ** 301 - 1, 301))
        self.assertEqual(tree.at([1] * 300).sign, "a")


class TestDeepAndGreat(unittest.TestCase):

    def test_deep(self):
        for depth in (1, 2, 499, 500, 501, 5000):
            tree, other = deep_tree(depth), deep_tree(depth)
            self.assertEqual((tree.depth(), tree.size(), tree.signs()), (depth, depth, ["a"]))
            self.assertIs(alike(tree, other), True)
            self.assertEqual(tree.at([0] * (depth - 1)).sign, "a")
            told = put_in(tree, [0] * (depth - 1), Leaf("b"))
            self.assertEqual((told.signs(), told.depth(), tree.signs()), (["b"], depth, ["a"]))
            self.assertIs(alike(told, tree), False)
            with self.assertRaises(NoPlace):
                tree.at([0] * depth)

    def test_deeper_by_putting_in(self):
        tree = put_in(deep_tree(500), [0] * 499, deep_tree(500))
        self.assertEqual((tree.depth(), tree.size(), tree.signs()), (999, 999, ["a"]))

    def test_great(self):
        tree = wide_tree(4200)
        self.assertGreater(tree.size(), 9000)
        self.assertLessEqual(tree.size(), 10000)
        self.assertEqual(tree.size(), count_of(tree))
        self.assertEqual(tree.signs(), ["a"] * len(tree.signs()))
        self.assertGreaterEqual(len(tree.signs()), 4200)
        self.assertIs(alike(tree, wide_tree(4200)), True)

    def test_deep_with_much_beside(self):
        tree = Leaf("a")
        for turn in range(499):
            tree = Node(0, [Leaf("b"), tree, Node(1, []), Leaf("c")])
        self.assertEqual((tree.depth(), tree.size()), (500, 1 + 499 * 4))
        self.assertEqual(tree.signs(), ["b"] * 499 + ["a"] + ["c"] * 499)


class TestNothingChanges(unittest.TestCase):

    def test_children_handed_in_and_changed_later(self):
        children = [Leaf("a"), Leaf("b")]
        tree = Node(0, children)
        children.append(Leaf("c"))
        children[0] = Leaf("z")
        self.assertEqual((tree.signs(), tree.size(), len(tree.children)), (["a", "b"], 3, 2))
        children.clear()
        self.assertEqual(written(tree), (0, "a", "b"))

    def test_children_handed_in_are_not_changed(self):
        children = [Leaf("a"), Node(0, [])]
        kept = list(children)
        tree = Node(0, children)
        put_in(tree, [0], Leaf("b"))
        tree.signs()
        self.assertEqual(children, kept)

    def test_lists_told_and_changed(self):
        tree = example()
        tree.signs().append("z")
        tree.signs().clear()
        self.assertEqual(tree.signs(), ["a", "b", "b"])
        self.assertIsNot(tree.signs(), tree.signs())
        self.assertIs(type(tree.signs()), list)
        self.assertIsNot(Leaf("a").signs(), Leaf("a").signs())

    def test_the_same_each_time(self):
        tree = example()
        before = copy.deepcopy(tree)
        for turn in range(2):
            self.assertEqual((tree.signs(), tree.size(), tree.depth(), tree.symbol_in(GRAMMAR)), (["a", "b", "b"], 9, 3, "S"))
            self.assertEqual(written(tree), written(before))


if __name__ == "__main__":
    unittest.main()
