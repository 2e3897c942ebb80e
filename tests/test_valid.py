"""[66]: whether a tree and a path are a paper for an item and a way."""

import random
import unittest

from rulestable.errors import NoTree
from rulestable.grammar import Grammar
from rulestable.grammartext import read_grammar
from rulestable.items import is_valid
from rulestable.trees import Leaf, Node
from rulestable.treetext import read_tree
from tests.growing import deep_tree, nodes_with_paths, small_trees, some_grammars, wide_tree, written
from tests.looking import is_own_paper, own_cut, own_items
from tests.texts import BARE_FORTY_ONE, DEAD, DEAD_AND_VAST, EMPTY, FORTY_ONE, SUMS
from tests.things import EqualToAll, all_things

# n + ( n ): the path [2, 1] leads to the inner n.
TREE = "{0 {2 n} + {1 ( {2 n} )}}"


class Valid(unittest.TestCase):

    def told(self, text, way, item, tree, path, wanted):
        tree = read_tree(tree) if isinstance(tree, str) else tree
        self.assertIs(is_valid(read_grammar(text), way, item, tree, path), wanted)


class TestByHand(Valid):

    def yes(self, way, item, path, tree=TREE, text=SUMS):
        self.told(text, way, item, tree, path, True)

    def no(self, way, item, path, tree=TREE, text=SUMS):
        self.told(text, way, item, tree, path, False)

    def test_each_dot_of_the_root(self):
        self.yes([], (0, 0, "$"), [])
        self.yes(["E"], (0, 1, "$"), [])
        self.yes(["E", "+"], (0, 2, "$"), [])
        self.yes(["E", "+", "E"], (0, 3, "$"), [])

    def test_deeper_nodes(self):
        self.yes([], (2, 0, "+"), [0])
        self.yes(["n"], (2, 1, "+"), [0])
        self.yes(["E", "+"], (1, 0, "$"), [2])
        self.yes(["E", "+", "("], (1, 1, "$"), [2])
        self.yes(["E", "+", "(", "E"], (1, 2, "$"), [2])
        self.yes(["E", "+", "("], (2, 0, ")"), [2, 1])
        self.yes(["E", "+", "(", "n"], (2, 1, ")"), [2, 1])

    def test_another_way(self):
        for way in ([], ["E"], ["E", "+"], ["n", "+", "("], ["E", "+", "(", "E"], ["(", "+", "E"], ["E", "+", "(", ""]):
            self.no(way, (2, 0, ")"), [2, 1])
        self.no(["E"], (0, 0, "$"), [])
        self.no(["$"], (0, 0, "$"), [])
        self.no([""], (0, 0, "$"), [])

    def test_another_dot_or_number_or_what_is_ahead(self):
        self.no(["E", "+", "("], (2, 1, ")"), [2, 1])
        self.no(["E", "+", "("], (1, 0, ")"), [2, 1])
        self.no(["E", "+", "("], (0, 0, ")"), [2, 1])
        for ahead in ("$", "+", "(", "n"):
            self.no(["E", "+", "("], (2, 0, ahead), [2, 1])

    def test_another_path(self):
        for path in ([], [0], [1], [2], [2, 0], [2, 1, 0], [2, 2], [2, 3], [3], [-1], [2, -2], [-1, 1], [2, 1, 0, 0],
                     [10 ** 30], None):
            self.no(["E", "+", "("], (2, 0, ")"), path)

    def test_a_path_that_leads_to_a_leaf(self):
        for number in range(3):
            for dot in range(2):
                self.no(["E"], (number, dot, "("), [1])
                self.no(["E", "+", "("], (number, dot, ")"), [2, 1, 0])
                self.no([], (number, dot, "$"), [], tree=Leaf("n"))
                self.no([], (number, dot, "$"), [], tree=Leaf("E"))

    def test_the_start_s_own_number(self):
        self.yes([], (-1, 0, "$"), None)
        self.yes(["E"], (-1, 1, "$"), None)
        self.no(["E"], (-1, 0, "$"), None)
        self.no([], (-1, 1, "$"), None)
        self.no(["E", "E"], (-1, 1, "$"), None)
        self.no(["n"], (-1, 1, "$"), None)
        self.no(["E"], (-1, 2, "$"), None)
        self.no([], (-1, -1, "$"), None)
        for sign in ("n", "+", "(", ")"):
            self.no([], (-1, 0, sign), None)
            self.no(["E"], (-1, 1, sign), None)

    def test_the_start_s_own_number_has_no_path(self):
        for path in ([], [0], [2], [2, 1], [1], [9], [-1]):
            self.no([], (-1, 0, "$"), path)
            self.no(["E"], (-1, 1, "$"), path)

    def test_another_number_has_a_path(self):
        self.no([], (0, 0, "$"), None)
        self.no(["E"], (0, 1, "$"), None)
        self.no(["E", "+", "E"], (0, 3, "$"), None)

    def test_no_tree_of_the_start(self):
        for tree in ("n", "+", "{2 +}", "{2}", "{2 n n}", "{0 {2 n} + n}", "{0 {2 n} + {3 n}}", "{9 n}", "{1 n n n}",
                     "{0 {2 n} + {1 ( {2 (} )}}", "{19}", "{0 n + n}"):
            for item, way, path in (((2, 0, "$"), [], []), ((0, 0, "$"), [], []), ((2, 0, "+"), [], [0]),
                                    ((-1, 0, "$"), [], None), ((-1, 1, "$"), ["E"], None)):
                self.no(way, item, path, tree=tree)

    def test_a_tree_of_another_head(self):
        text = "S : A\nA : a"
        self.yes([], (1, 0, "$"), [0], tree="{0 {1 a}}", text=text)
        self.no([], (1, 0, "$"), [], tree="{1 a}", text=text)
        self.no([], (-1, 0, "$"), None, tree="{1 a}", text=text)
        self.no(["S"], (-1, 1, "$"), None, tree="{1 a}", text=text)

    def test_a_flaw_far_from_the_path(self):
        self.no([], (2, 0, "+"), [0], tree="{0 {2 n} + {1 ( {2 +} )}}")
        self.no([], (2, 0, "+"), [0], tree="{0 {2 n} + {1 ( {7} )}}")

    def test_nodes_without_leaves(self):
        tree = "{0 {3} {4 b {3}} c}"
        self.yes([], (3, 0, "b"), [0], tree=tree, text=EMPTY)
        self.yes(["A", "b"], (3, 0, "c"), [1, 1], tree=tree, text=EMPTY)
        self.yes(["A", "b", "A"], (4, 2, "c"), [1], tree=tree, text=EMPTY)
        self.no([], (3, 0, "c"), [0], tree=tree, text=EMPTY)
        self.yes([], (3, 0, "c"), [0], tree="{0 {3} {5} c}", text=EMPTY)
        self.yes(["A"], (5, 0, "c"), [1], tree="{0 {3} {5} c}", text=EMPTY)

    def test_a_row_that_is_empty(self):
        self.yes([], (1, 0, "$"), [], tree="{1 {3}}", text=EMPTY)
        self.yes([], (3, 0, "$"), [0], tree="{1 {3}}", text=EMPTY)
        self.yes(["S"], (-1, 1, "$"), None, tree="{1 {3}}", text=EMPTY)

    def test_one_node_at_several_places(self):
        node = Node(2, [Leaf("n")])
        tree = Node(0, [node, Leaf("+"), node])
        self.yes([], (2, 0, "+"), [0], tree=tree)
        self.yes(["E", "+"], (2, 0, "$"), [2], tree=tree)
        self.no([], (2, 0, "$"), [0], tree=tree)
        self.no(["E", "+"], (2, 0, "+"), [2], tree=tree)


class TestThings(Valid):

    def test_any_thing_as_the_item(self):
        grammar = read_grammar("S : a | S a")
        tree = Node(0, [Leaf("a")])
        things = all_things() + [[0, 0, "$"], (0, 0), (0, 0, "$", 0), ("$", 0, 0), (0, 0, "zz"), (0, 0, "S"), (2, 0, "$")]
        things += [(thing, 0, "$") for thing in all_things() if type(thing) is not int or thing not in (-1, 0)]
        things += [(0, thing, "$") for thing in all_things() if type(thing) is not int or thing != 0]
        things += [(0, 0, thing) for thing in all_things() if type(thing) is not str or thing != "$"]
        things += [(EqualToAll(),) * 3, (False, 0, "$"), (0, False, "$"), (-1.0, 0, "$"), (0.0, 0, "$")]
        for path in ([], None):
            for thing in things:
                self.assertIs(is_valid(grammar, [], thing, tree, path), False)
        self.assertIs(is_valid(grammar, [], (0, 0, "$"), tree, []), True)

    def test_signs_and_numbers_of_any_sort_in_trees(self):
        for sign in ("", "$", "E", " ", "n n", "zz"):
            for tree in (Leaf(sign), Node(2, [Leaf(sign)]), Node(0, [Node(2, [Leaf("n")]), Leaf(sign), Node(2, [Leaf("n")])])):
                self.told(SUMS, [], (2, 0, "+"), tree, [0], False)
                self.told(SUMS, [], (0, 0, "$"), tree, [], False)
                self.told(SUMS, [], (-1, 0, "$"), tree, None, False)
        for number in (-1, 3, 19, 10 ** 30):
            tree = Node(0, [Node(2, [Leaf("n")]), Leaf("+"), Node(number, [Leaf("n")])])
            self.told(SUMS, [], (2, 0, "+"), tree, [0], False)
            self.assertRaises(NoTree, tree.at([2]).symbol_in, read_grammar(SUMS))

    def test_texts_of_any_sort_in_ways(self):
        for text in ("", "$", " ", "zz", "Z", "EE", "\n"):
            self.told(SUMS, [text], (0, 1, "$"), TREE, [], False)
            self.told(SUMS, ["E", text], (0, 2, "$"), TREE, [], False)
            self.told(SUMS, [text], (-1, 1, "$"), TREE, None, False)

    def test_of_all_grammars(self):
        self.told(DEAD, ["a"], (0, 1, "$"), "{0 a}", [], True)
        self.told(DEAD, [], (1, 0, "$"), "{0 a}", [], False)
        self.told(DEAD, ["S"], (-1, 1, "$"), "{0 a}", None, True)
        self.told(DEAD, [], (0, 0, "b"), "{1 {0 a} {3 {3 b} b}}", [0], False)
        self.told("S : S a\nA : a", [], (1, 0, "$"), "{1 a}", [], False)
        self.told("S : S a\nA : a", [], (-1, 0, "$"), "{1 a}", None, False)
        self.told("S : a\nD : a", [], (0, 0, "$"), "{0 a}", [], True)
        self.told("S : a\nD : a", [], (1, 0, "$"), "{1 a}", [], False)
        self.told("S : a | S D\nD : B a\nB : B", [], (0, 0, "a"), "{1 {0 a} {2 a a}}", [0], False)
        self.told(BARE_FORTY_ONE, ["a"], (1, 1, "$"), "{1 a}", [], True)
        self.told("S : s | S S\nA : B B B\nB : C C C C\nC : c c c c", ["S"], (0, 0, "$"), "{1 {0 s} {0 s}}", [1], True)
        self.told(DEAD_AND_VAST, [], (0, 0, "$"), "{1 a}", [], False)

    def test_of_a_vast_grammar_by_its_own_tree(self):
        bees = "{2 b b b b}"
        tree = "{0 {1 " + " ".join([bees] * 4) + "} " + bees + " " + bees + " {3 " + bees + " c c c}}"
        self.told(FORTY_ONE, ["A", "B", "B", "B", "c"], (3, 2, "$"), tree, [3], True)
        self.told(FORTY_ONE, ["A", "B", "B", "B", "c"], (3, 3, "$"), tree, [3], False)

    def test_great_trees(self):
        deep = Grammar([("E", ("E",)), ("E", ("a",))])
        tree = deep_tree(499)
        tree_of_start = Node(1, [Leaf("a")])
        for turn in range(498):
            tree_of_start = Node(0, [tree_of_start])
        self.assertEqual((tree.depth(), tree_of_start.depth()), (499, 500))
        self.assertIs(is_valid(deep, ["a"], (1, 1, "$"), tree_of_start, [0] * 498), True)
        self.assertIs(is_valid(deep, ["a"], (1, 1, "$"), tree_of_start, [0] * 499), False)
        self.assertIs(is_valid(deep, ["a"], (1, 1, "$"), tree_of_start, [0] * 497), False)
        self.assertIs(is_valid(deep, ["a"], (1, 1, "$"), tree, [0] * 498), False)
        wide = read_grammar("E : E E E E | E a a a | a")
        tree = wide_tree(3000)
        while tree.size() > 10000:
            tree = tree.children[0]
        path = []
        while tree.at(path).number == 0:
            path = path + [3]
        way = own_cut(wide.rules, tree, path, 1)
        self.assertIs(is_valid(wide, way, (2, 1, "$"), tree, path), True)
        self.assertIs(is_valid(wide, way[1:], (2, 1, "$"), tree, path), False)


class TestSearch(unittest.TestCase):
    """All nodes of small trees of many grammars, clean or not, with ways, items and paths that fit and that don't."""

    def test_each_node_with_each_dot(self):
        count = 0
        for grammar in some_grammars(150, seed=66):
            rules = grammar.rules
            for tree in small_trees(rules, 6, 6)[grammar.start]:
                for path, node in nodes_with_paths(tree):
                    for dot in range(len(node.children) + 1):
                        way = own_cut(rules, tree, path, dot)
                        aheads = [ahead for ahead in grammar.signs() + ["$"]
                                  if is_valid(grammar, way, (node.number, dot, ahead), tree, list(path))]
                        self.assertEqual(len(aheads), 1)
                        self.assertTrue(is_own_paper(rules, way, (node.number, dot, aheads[0]), tree, list(path)))
                        count += 1
        self.assertGreater(count, 1000)

    def test_what_fits_and_what_does_not(self):
        chance = random.Random(660)
        answers = {True: 0, False: 0}
        for grammar in some_grammars(150, seed=67):
            rules = grammar.rules
            trees = [tree for head, told in sorted(small_trees(rules, 6, 6).items()) for tree in told]
            trees += [Leaf(sign) for sign in grammar.signs()]
            items = own_items(rules)
            paths = sorted({path for tree in trees for path, node in nodes_with_paths(tree)})
            paths = [list(path) for path in paths + [(0, 0, 0), (3,), (1, 1), (4,)]] + [None]
            ways = [[], [grammar.start]] + [[symbol] for symbol in grammar.signs()]
            for tree in trees:
                if not isinstance(tree, Leaf):
                    nodes = list(nodes_with_paths(tree))
                    path, node = chance.choice(nodes)
                    ways.append(own_cut(rules, tree, path, chance.randint(0, len(node.children))))
            for turn in range(400 if trees else 0):
                asked = (chance.choice(ways), chance.choice(items), chance.choice(trees), chance.choice(paths))
                wanted = is_own_paper(rules, *asked)
                self.assertIs(is_valid(grammar, *asked), wanted)
                answers[wanted] += 1
        self.assertGreater(answers[True], 300)
        self.assertGreater(answers[False], 10000)


class TestNothingChanges(unittest.TestCase):

    def test_what_is_handed_in(self):
        grammar, tree = read_grammar(SUMS), read_tree(TREE)
        way, path = ["E", "+", "("], [2, 1]
        for turn in range(2):
            self.assertIs(is_valid(grammar, way, (2, 0, ")"), tree, path), True)
            self.assertIs(is_valid(grammar, path, (2, 0, ")"), tree, path), False)
            self.assertEqual((way, path), (["E", "+", "("], [2, 1]))
            self.assertEqual(written(tree), written(read_tree(TREE)))


if __name__ == "__main__":
    unittest.main()
