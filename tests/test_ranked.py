"""[101] to [103]: operator grammars, trees that keep the ranks, and the trees of rows that do, by hand; refusals."""

import unittest

from rulestable.errors import NoRanks, NoRow, NoTree
from rulestable.grammar import Grammar
from rulestable.grammartext import read_grammar
from rulestable.ranked import climbed, is_operators, keeps
from rulestable.trees import Leaf, Node
from rulestable.treetext import read_tree, show_tree
from tests.growing import deep_tree, row_of, written
from tests.refusing import Refusing
from tests.things import all_things, no_rows

SUMS = "left +\nE : E + E | n"
CALC = "left + -\nleft *\nright ^\nnone =\nE : E + E | E - E | E * E | E ^ E | E = E | ( E ) | [ E ] | n"
GOOD = (SUMS, CALC, "E : n", "E : ( E ) | n", "E : n | m | k", "left zz\nE : n", "right zz + 0\nE : n | E + E", "E : n | ( E ]",
        "none +\nAbc1 : Abc1 + Abc1 | n", "left +\nright *\nE : E * E | n | E + E | ( E )", "left ( )\nE : n",
        "left a b c d e f\nE : E a E | E b E | E c E | E d E | E e E | E f E | ( E ) | n")
NO_OPERATORS = (
    # No atom.
    "left +\nE : E + E", "E : ( E )", "left +\nE : E + E | ( E )",
    # A sign twice.
    "left +\nE : E + E | +", "left +\nE : E + E | ( E ( | n", "E : ( E ) | ( E ] | n", "E : ( E ) | [ E ) | n",
    "E : n | n E )", "E : n | ( E n", "left +\nE : E + E | + E ) | n", "left +\nE : E + E | ( E + | n",
    "E : ( E ) | ) E ( | n",
    # An op without a rank.
    "E : E + E | n", "left +\nE : E + E | E * E | n", "left zz\nE : E + E | n", "left *\nE : E + E | n",
    # Another sign with a rank.
    "left n\nE : n", "left + n\nE : E + E | n", "left +\nright (\nE : E + E | ( E ) | n",
    "left +\nnone )\nE : E + E | ( E ) | n", "left +\nleft m\nE : E + E | n | m",
    # Two heads.
    "left +\nE : E + E | n\nF : m", "left +\nE : F + E | n\nF : m", "left +\nE : E + F | n\nF : m", "E : ( F ) | n\nF : m",
    "left +\nE : E + E | F\nF : n", "E : n\nF : F",
    # Other forms.
    "E : ~", "E : n | ~", "E : n | E", "E : n | E E", "E : n | - E", "E : n | E !", "E : n m", "E : n | E E E",
    "left +\nE : n | + E E", "left +\nE : n | E E +", "E : n m k", "E : n | ( ) k", "E : n | ( E ) ;", "E : n | ( E E )",
    "left +\nE : n | E + E ;", "left + *\nE : n | E + * E", "left +\nE : n | E + E E", "left +\nE : n | E + m",
    "left +\nE : n | m + E",
)


def tree_in(text, row):
    """The text of the tree that keeps the ranks, or None."""
    tree = climbed(read_grammar(text), row.split())
    return tree and show_tree(tree)


class TestOperatorGrammars(unittest.TestCase):

    def test_those_that_are(self):
        for text in GOOD:
            self.assertIs(is_operators(read_grammar(text)), True, text)

    def test_those_that_are_none(self):
        for text in NO_OPERATORS:
            self.assertIs(is_operators(read_grammar(text)), False, text)

    def test_ten_signs_in_twenty_places(self):
        # As many rules as may be, but signs stand twice.
        rules = [("E", ("n",))] + [("E", (one, "E", other)) for one in "abcd" for other in "efgh"]
        self.assertIs(is_operators(Grammar(rules)), False)
        self.assertIs(is_operators(Grammar(rules[:2])), True)


class TestKeeps(unittest.TestCase):

    def kept(self, text):
        told = keeps(read_grammar(CALC), read_tree(text))
        self.assertIs(type(told), bool)
        return told

    def test_a_greater_rank_beneath(self):
        # The rules: 0 + left, 1 - left, 2 * left, 3 ^ right, 4 = none, 5 and 6 brackets, 7 the atom.
        self.assertTrue(self.kept("{0 {2 {7 n} * {7 n}} + {7 n}}"))
        self.assertTrue(self.kept("{0 {7 n} + {2 {7 n} * {7 n}}}"))
        self.assertTrue(self.kept("{0 {2 {7 n} * {7 n}} + {4 {7 n} = {7 n}}}"))

    def test_a_lesser_rank_beneath(self):
        self.assertFalse(self.kept("{2 {0 {7 n} + {7 n}} * {7 n}}"))
        self.assertFalse(self.kept("{2 {7 n} * {0 {7 n} + {7 n}}}"))
        self.assertFalse(self.kept("{4 {3 {7 n} ^ {7 n}} = {7 n}}"))

    def test_the_same_rank_beneath(self):
        for text, wanted in (("{0 {0 {7 n} + {7 n}} + {7 n}}", True), ("{0 {7 n} + {0 {7 n} + {7 n}}}", False),
                             ("{0 {1 {7 n} - {7 n}} + {7 n}}", True), ("{1 {7 n} - {0 {7 n} + {7 n}}}", False),
                             ("{3 {3 {7 n} ^ {7 n}} ^ {7 n}}", False), ("{3 {7 n} ^ {3 {7 n} ^ {7 n}}}", True),
                             ("{4 {4 {7 n} = {7 n}} = {7 n}}", False), ("{4 {7 n} = {4 {7 n} = {7 n}}}", False)):
            self.assertIs(self.kept(text), wanted, text)

    def test_brackets_between(self):
        self.assertTrue(self.kept("{2 {5 ( {0 {7 n} + {7 n}} )} * {6 [ {0 {7 n} + {7 n}} ]}}"))
        self.assertTrue(self.kept("{4 {7 n} = {5 ( {4 {7 n} = {7 n}} )}}"))
        self.assertFalse(self.kept("{5 ( {2 {0 {7 n} + {7 n}} * {7 n}} )}"))

    def test_far_below(self):
        deep = "{4 {4 {7 n} = {7 n}} = {7 n}}"
        self.assertFalse(self.kept("{0 {7 n} + {2 {5 ( {6 [ " + deep + " ]} )} * {7 n}}}"))
        self.assertFalse(self.kept("{0 {2 {7 n} * {5 ( " + deep + " )}} + {7 n}}"))

    def test_only_right_beneath(self):
        # In brackets a lesser rank may stand farther below a greater one.
        self.assertTrue(self.kept("{0 {7 n} + {3 {5 ( {0 {7 n} + {7 n}} )} ^ {7 n}}}"))

    def test_atoms_and_deep_trees(self):
        self.assertTrue(self.kept("{7 n}"))
        tree, wrong = Node(7, [Leaf("n")]), Node(7, [Leaf("n")])
        for turn in range(498):
            tree = Node(0, [tree, Leaf("+"), Node(7, [Leaf("n")])])
            wrong = Node(0, [Node(7, [Leaf("n")]), Leaf("+"), wrong])
        self.assertEqual(tree.depth(), 500)
        self.assertIs(keeps(read_grammar(CALC), tree), True)
        self.assertIs(keeps(read_grammar(CALC), wrong), False)

    def test_one_tree_at_several_places(self):
        atom = Node(7, [Leaf("n")])
        times = Node(2, [atom, Leaf("*"), atom])
        self.assertIs(keeps(read_grammar(CALC), Node(0, (times, Leaf("+"), times))), True)
        self.assertIs(keeps(read_grammar(CALC), Node(2, (times, Leaf("*"), times))), False)


class TestClimbed(unittest.TestCase):

    def test_sides_and_ranks(self):
        for row, wanted in (("n", "{7 n}"), ("n + n", "{0 {7 n} + {7 n}}"),
                            ("n + n - n", "{1 {0 {7 n} + {7 n}} - {7 n}}"),
                            ("n + n * n", "{0 {7 n} + {2 {7 n} * {7 n}}}"),
                            ("n * n + n", "{0 {2 {7 n} * {7 n}} + {7 n}}"),
                            ("n ^ n ^ n", "{3 {7 n} ^ {3 {7 n} ^ {7 n}}}"),
                            ("n = n", "{4 {7 n} = {7 n}}"), ("n = n = n", None), ("n = n + n = n", "{0 {4 {7 n} = {7 n}} + "
                             "{4 {7 n} = {7 n}}}"),
                            ("n + n ^ n = n * n", "{0 {7 n} + {2 {3 {7 n} ^ {4 {7 n} = {7 n}}} * {7 n}}}")):
            self.assertEqual(tree_in(CALC, row), wanted, row)

    def test_none_with_stronger_ones_between(self):
        text = "none =\nleft +\nE : E = E | E + E | n"
        self.assertIsNone(tree_in(text, "n = n + n = n"))
        self.assertIsNone(tree_in(text, "n + n = n + n + n = n"))
        self.assertEqual(tree_in(text, "n = n + n"), "{0 {2 n} = {1 {2 n} + {2 n}}}")

    def test_none_of_one_rank_with_others(self):
        text = "none = !\nE : E = E | E ! E | ( E ) | n"
        self.assertIsNone(tree_in(text, "n = n ! n"))
        self.assertEqual(tree_in(text, "( n = n ) ! n"), "{1 {2 ( {0 {3 n} = {3 n}} )} ! {3 n}}")
        self.assertIsNone(tree_in(text, "( n = n ) ! n = n"))

    def test_brackets(self):
        for row, wanted in (("( n )", "{5 ( {7 n} )}"), ("( n + n ) * n", "{2 {5 ( {0 {7 n} + {7 n}} )} * {7 n}}"),
                            ("n * ( n + n )", "{2 {7 n} * {5 ( {0 {7 n} + {7 n}} )}}"), ("[ ( n ) ]", "{6 [ {5 ( {7 n} )} ]}"),
                            ("n = ( n = n )", "{4 {7 n} = {5 ( {4 {7 n} = {7 n}} )}}")):
            self.assertEqual(tree_in(CALC, row), wanted, row)

    def test_rows_that_have_no_tree(self):
        for row in ("", "+", "n +", "+ n", "n n", "n + + n", "( )", "(", ")", "( n", "n )", "( n ]", "[ n )", "( [ n ) ]",
                    "( n + )", "( + n )", "n ( n )", "( n ) n", "( n ) ( n )", "n + ( n", "n + n )", ") n (", "( n ) )",
                    "( ( n )", "zz", "n zz n", "n + zz", "zz + n", "n + n zz", "] n", "n ]", "n + ) n", "( n = n = n )"):
            self.assertIsNone(tree_in(CALC, row), row)

    def test_a_rank_sign_that_no_rule_has(self):
        self.assertIsNone(tree_in("left zz +\nE : E + E | n", "n zz n"))

    def test_several_atoms(self):
        self.assertEqual(tree_in("right +\nS : m | S + S | n", "m + n + m"), "{1 {0 m} + {1 {2 n} + {0 m}}}")

    def test_forty_signs(self):
        for side in ("left", "right"):
            grammar = read_grammar(f"{side} +\nE : E + E | ( E ) | n")
            row = ["n", "+"] * 19 + ["n"]
            self.assertEqual(row_of(climbed(grammar, row)), row)
            self.assertEqual(climbed(grammar, row).depth(), 21)
            self.assertIsNone(climbed(grammar, row + ["+"]))
            row = ["("] * 19 + ["n"] + [")"] * 19
            self.assertEqual(row_of(climbed(grammar, row)), row)
            self.assertIsNone(climbed(grammar, ["("] * 20 + ["n"] + [")"] * 19))
            self.assertIsNone(climbed(grammar, ["("] * 19 + ["n"] + [")"] * 20))
            self.assertIsNone(climbed(grammar, ["("] * 40))

    def test_kinds(self):
        tree = climbed(read_grammar(CALC), ["n", "+", "n"])
        self.assertIs(type(tree), Node)
        self.assertEqual([type(child) for child in tree.children], [Node, Leaf, Node])


class TestRefused(Refusing):

    def test_grammars(self):
        for text in NO_OPERATORS:
            grammar = read_grammar(text)
            self.refuses(NoRanks, "found", grammar.ranks, keeps, grammar, Node(0, [Leaf("n")]))
            self.refuses(NoRanks, "found", grammar.ranks, climbed, grammar, ["n"])

    def test_grammars_ahead_of_all_else(self):
        for text in NO_OPERATORS[::9]:
            grammar = read_grammar(text)
            for thing in all_things() + no_rows(40):
                self.refuses(NoRanks, "found", grammar.ranks, keeps, grammar, thing)
                self.refuses(NoRanks, "found", grammar.ranks, climbed, grammar, thing)

    def test_what_is_no_tree_of_the_start(self):
        atom = Node(7, [Leaf("n")])
        others = [Leaf("n"), Leaf("E"), Leaf(""), Node(7, []), Node(7, [Leaf("m")]), Node(7, [atom]), Node(0, [atom]),
                  Node(0, [atom, Leaf("-"), atom]), Node(0, [atom, Leaf("+"), Leaf("n")]), Node(8, [Leaf("n")]),
                  Node(19, []), Node(0, [atom, atom, atom]), Node(5, [Leaf("("), atom, Leaf("]")]), deep_tree(500, 7),
                  Node(2, [Node(0, [atom, Leaf("+"), atom]), Leaf("*"), Node(7, [Leaf("m")])]), Node(7, [None]),
                  Node(0, [atom, Leaf("+"), "n"]), (7, "n"), "{7 n}", [atom], (atom,), {7: atom}, Node, Leaf]
        grammar = read_grammar(CALC)
        for thing in all_things() + others:
            self.refuses(NoTree, "found", thing, keeps, grammar, thing)

    def test_what_is_no_row(self):
        for text in (CALC, "E : n", "E : a"):
            for thing in no_rows(40):
                self.refuses(NoRow, "found", thing, climbed, read_grammar(text), thing)

    def test_forty_signs_and_forty_one(self):
        grammar = read_grammar("left +\nE : E + E | n")
        climbed(grammar, ["n", "+"] * 20)
        for more in (["n", "+"] * 20 + ["n"], ["zz"] * 41):
            self.refuses(NoRow, "found", more, climbed, grammar, more)


class TestNothingChanges(unittest.TestCase):

    def test_what_is_handed_in(self):
        grammar = read_grammar(CALC)
        for text in ("n + n * n", "n + n )", ""):
            row = text.split()
            before = tree_in(CALC, text)
            told = climbed(grammar, row)
            self.assertEqual(row, text.split())
            row.append("n")
            self.assertEqual(told and show_tree(told), before)
            self.assertEqual(tree_in(CALC, text), before)

    def test_trees(self):
        grammar, tree = read_grammar(CALC), read_tree("{0 {2 {7 n} * {7 n}} + {7 n}}")
        before = written(tree)
        for turn in range(3):
            self.assertIs(keeps(grammar, tree), True)
        self.assertEqual(written(tree), before)

    def test_what_is_refused(self):
        grammar = read_grammar(CALC)
        for thing in no_rows(40):
            self.assertRaises(NoRow, climbed, grammar, thing)
        self.assertEqual((grammar.rules, grammar.ranks), (read_grammar(CALC).rules, read_grammar(CALC).ranks))
        self.assertEqual(written(climbed(grammar, ["n"])), (7, "n"))


if __name__ == "__main__":
    unittest.main()
