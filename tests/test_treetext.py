"""[38], [39], [5]: trees written as texts, and read."""

import itertools
import unittest

from rulestable.errors import NoTree
from rulestable.trees import Leaf, Node, alike
from rulestable.treetext import read_tree, show_tree
from tests.growing import count_of, deep_tree, small_trees, some_grammars, wide_tree, written
from tests.refusing import Refusing
from tests.things import far_numbers, no_words, other_things, truths


def text_of(tree):
    """The tree's text, by the tests' own writing."""
    if isinstance(tree, Leaf):
        return tree.sign
    return "{" + " ".join([str(tree.number)] + [text_of(child) for child in tree.children]) + "}"


def deep_text(depth):
    return "{0 " * (depth - 1) + "a" + "}" * (depth - 1)


def short_texts(marks, numbers, longest):
    """The texts, of at most so many characters, of all trees with signs of these marks and with these numbers.

    A dict from them to what is written so, as nested tuples and texts.
    """
    by_length = {0: {}}
    for length in range(1, longest + 1):
        found = {}
        if length <= 6:
            found.update(("".join(chosen), "".join(chosen)) for chosen in itertools.product(marks, repeat=length))
        for number in numbers:
            begin = "{" + str(number)
            for count in range(5):
                for row, told in short_rows(by_length, count, length - len(begin) - 1):
                    found[begin + row + "}"] = (number,) + told
        by_length[length] = found
    return {text: told for found in by_length.values() for text, told in found.items()}


def short_rows(by_length, count, length):
    """All rows of so many children's texts with a blank ahead of each, of just this length."""
    if count == 0:
        return [("", ())] if length == 0 else []
    return [(" " + text + row, (told,) + rest) for first in range(1, length) for text, told in by_length[first].items()
            for row, rest in short_rows(by_length, count - 1, length - 1 - first)]


class TestShown(unittest.TestCase):

    def test_the_example(self):
        self.assertEqual(show_tree(Node(3, [Leaf("a"), Node(1, []), Leaf("b")])), "{3 a {1} b}")

    def test_leaves_and_nodes_alone(self):
        self.assertEqual(show_tree(Leaf("a")), "a")
        self.assertEqual(show_tree(Leaf("[]=<>,")), "[]=<>,")
        self.assertEqual(show_tree(Node(0, [])), "{0}")
        self.assertEqual(show_tree(Node(19, ())), "{19}")

    def test_children_from_the_left(self):
        tree = Node(10, [Node(2, [Leaf("a"), Leaf("b")]), Leaf("c"), Node(0, [Node(1, [])]), Leaf("d")])
        self.assertEqual(show_tree(tree), "{10 {2 a b} c {0 {1}} d}")

    def test_small_trees(self):
        for grammar in some_grammars(60):
            for head, trees in small_trees(grammar.rules, 7, 6).items():
                for tree in trees:
                    self.assertEqual(show_tree(tree), text_of(tree))

    def test_deep(self):
        for depth in (1, 2, 500, 501, 4000):
            self.assertEqual(show_tree(deep_tree(depth)), deep_text(depth))

    def test_the_same_tree_at_several_places(self):
        part = Node(1, [Leaf("a")])
        self.assertEqual(show_tree(Node(0, [part, part, Node(2, [part])])), "{0 {1 a} {1 a} {2 {1 a}}}")

    def test_beyond_what_is_read(self):
        self.assertEqual(show_tree(Node(20, [Leaf("E")] * 5)), "{20 E E E E E}")


class TestRead(unittest.TestCase):

    def reads(self, text, told):
        tree = read_tree(text)
        self.assertEqual(written(tree), told)
        self.assertEqual(show_tree(tree), text)

    def test_the_example(self):
        tree = read_tree("{3 a {1} b}")
        self.assertIs(type(tree), Node)
        self.assertEqual([type(child) for child in tree.children], [Leaf, Node, Leaf])
        self.assertEqual((tree.number, tree.children[1].number, tree.children[1].children), (3, 1, ()))
        self.assertEqual((tree.children[0].sign, tree.children[2].sign), ("a", "b"))
        self.assertIs(type(tree.number), int)

    def test_leaves(self):
        for sign in ("a", "0", "00", "012345", "20", "abcdef", "+-*/()", "[]=<>,", ";.!?^&"):
            self.reads(sign, sign)
            self.assertIs(type(read_tree(sign)), Leaf)
            self.reads("{0 " + sign + "}", (0, sign))

    def test_every_number(self):
        for number in range(20):
            self.reads("{" + str(number) + "}", (number,))
            self.reads("{0 {" + str(number) + " a}}", (0, (number, "a")))

    def test_none_to_four_children(self):
        for count in range(5):
            self.reads("{7" + " a" * count + "}", (7,) + ("a",) * count)
            self.reads("{7" + " {1}" * count + "}", (7,) + ((1,),) * count)

    def test_there_and_back(self):
        for grammar in some_grammars(60):
            for head, trees in small_trees(grammar.rules, 7, 6).items():
                for tree in trees:
                    self.assertIs(alike(read_tree(show_tree(tree)), tree), True)

    def test_500_deep(self):
        for depth in (1, 2, 499, 500):
            self.assertIs(alike(read_tree(deep_text(depth)), deep_tree(depth)), True)
        lowest = "{0 " * 499 + "{0}" + "}" * 499
        self.assertEqual(read_tree(lowest).depth(), 500)
        beside = "{0 a " * 499 + "b" + " {1} c}" * 499
        self.assertEqual((read_tree(beside).depth(), read_tree(beside).size()), (500, 1 + 4 * 499))
        self.assertEqual(show_tree(read_tree(beside)), beside)

    def test_a_size_of_10000(self):
        tree = wide_tree(4200)
        self.assertGreater(count_of(tree), 9000)
        self.assertIs(alike(read_tree(show_tree(tree)), tree), True)

    def test_the_same_each_time(self):
        one, other = read_tree("{0 {1} a}"), read_tree("{0 {1} a}")
        self.assertIs(alike(one, other), True)


class TestRefused(Refusing):

    def no_tree(self, thing):
        self.refuses(NoTree, "found", thing, read_tree, thing)

    def test_what_is_no_text(self):
        for thing in other_things() + truths() + far_numbers() + [0, 1, Leaf("a"), Node(0, []), ["a"], b"{0}", {"{0}": 1}]:
            self.no_tree(thing)

    def test_words_that_are_no_signs(self):
        for word in [word for word in no_words() if word != "a b"] + ["E", "Ab", "$", "aaaaaaa", "a$", ":", "~", "|"]:
            self.no_tree(word)
            self.no_tree("{0 " + word + "}")
            self.no_tree("{0 a " + word + " {1}}")
            self.no_tree("{" + word + "}")

    def test_numbers(self):
        for number in ("20", "21", "99", "100", "00", "01", "007", "019", "-1", "-0", "+1", "1.", "1.0", "0x1", "1e1", "a", "",
                       "E", "1_0", "\u0661", "\xb2", "\uff11", "10000000000", "9" * 5000):
            self.no_tree("{" + number + "}")
            self.no_tree("{" + number + " a}")
            self.no_tree("{0 {" + number + "}}")

    def test_five_children(self):
        for text in ("{0 a a a a a}", "{0 {1} {1} {1} {1} {1}}", "{0 a b c d {1}}", "{0 {1} a b c d}", "{0 {1 a b c d e}}",
                     "{0 a b c {1 a b c d e} d}", "{0" + " a" * 300 + "}"):
            self.no_tree(text)

    def test_blanks_more_or_fewer(self):
        for text in ("", " ", "  ", " a", "a ", "a b", " {0}", "{0} ", "{ 0}", "{0 }", "{0  a}", "{0 a }", "{0 a  b}", "{0a}",
                     "{0 a{1}}", "{0{1}}", "{0 {1}{2}}", "{0 {1}a}", "{0 {1} }", "{0 { 1}}", "{0} {1}", "{0} a", "a {0}",
                     "{0\ta}", "{0\na}", "{0}\n", "\n{0}", "a\n", "{0\u00a0a}"):
            self.no_tree(text)

    def test_brackets_more_or_fewer(self):
        for text in ("{", "}", "{}", "{{", "}}", "{{}}", "{0", "0}", "{0}}", "{{0}", "{{0}}", "{0 a", "{0 a}}", "{0 {1}", "{0 1}}",
                     "{0 {{1}}}", "{0 {1 a} b", "{0 {a}}", "{0 {}}", "{0 a} b}", "}{", "}0{", "{0 }a{}", "a}", "{a", "{0 a}{1}",
                     "{0 }}", "{0 } }", "{0 {1}}}", "{0 } a}", "{0 a{}", "{0 }}{"):
            self.no_tree(text)

    def test_deeper_than_500(self):
        for depth in (501, 502, 1000, 100000):
            self.no_tree(deep_text(depth))
            self.no_tree("{0 " * (depth - 1) + "{0}" + "}" * (depth - 1))
        self.no_tree("{0 a " * 500 + "b" + " {1} c}" * 500)
        self.no_tree("{0 a " + deep_text(500) + " b}")
        self.no_tree("{0 " * 100000)
        self.no_tree("}" * 100000)
        self.no_tree("{0" * 100000)

    def test_what_was_shown_of_trees_beyond(self):
        for tree in (Node(20, []), Node(0, [Leaf("a")] * 5), Leaf("E"), Leaf(""), Leaf("a b"), deep_tree(501)):
            self.no_tree(show_tree(tree))

    def compare(self, text, known):
        if text in known:
            self.assertEqual(written(read_tree(text)), known[text])
        else:
            self.no_tree(text)

    def test_every_short_text(self):
        known = short_texts("0a", [0], 7)
        self.assertIn("{0 {0}}", known)
        self.assertIn("{0 a 0}", known)
        self.assertIn("00aa00", known)
        for length in range(8):
            for marks in itertools.product("{}0a ", repeat=length):
                self.compare("".join(marks), known)

    def test_every_text_of_some_parts(self):
        known = short_texts("a", [0, 1], 13)
        self.assertIn("{0 {1} {1 a}}", known)
        for length in range(8):
            for chosen in itertools.product(["{0", "{1", "}", " ", "a"], repeat=length):
                if len("".join(chosen)) <= 13:
                    self.compare("".join(chosen), known)


if __name__ == "__main__":
    unittest.main()
