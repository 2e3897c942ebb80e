"""[75]: whether a thing is a paper for what is ahead and entries; forged ones are told as False, never refused."""

import copy
import random
import unittest

from rulestable.conflicts import conflict_paper, is_conflict
from rulestable.grammartext import read_grammar
from rulestable.states import States
from rulestable.tables import Table
from rulestable.trees import Leaf, Node
from rulestable.treetext import read_tree
from tests.doing import is_own_conflict, leaves_left_of, ranked_grammars
from tests.growing import deep_tree, nodes_with_paths, small_trees, wide_tree, written
from tests.looking import own_cut
from tests.texts import BARE_FORTY_ONE, DEAD
from tests.things import EqualToAll, all_things, deep_list

PLUS = "E : E + E | n"
REDUCE, SHIFT, ACCEPT = ("reduce", 0), ("shift", 3), ("accept",)
# n + n with one more + ahead: the first is built up already in the one tree, and goes on in the other.
WAY, ROW = ["E", "+", "E"], ["n", "+", "n"]
LEFT = ("{0 {0 {1 n} + {1 n}} + {1 n}}", [0], 3)
RIGHT = ("{0 {1 n} + {0 {1 n} + {1 n}}}", [2], 1)
# Of `S : S | a`, with the end mark ahead.
LOOP = "S : S | a"
DONE = ("{1 a}", None, None)
ONCE_MORE = ("{0 {1 a}}", [], 1)


def ground(told):
    return (read_tree(told[0]),) + tuple(told[1:])


def paper_of(way, row, *grounds):
    return (list(way), list(row), tuple(ground(told) for told in grounds))


def good():
    return paper_of(WAY, ROW, LEFT, RIGHT)


class Asking(unittest.TestCase):

    def told(self, wanted, ahead, entries, paper, text=PLUS):
        grammar = read_grammar(text)
        self.assertIs(is_conflict(grammar, ahead, entries, paper), wanted)

    def yes(self, *told, **more):
        self.told(True, *told, **more)

    def no(self, *told, **more):
        self.told(False, *told, **more)


class TestGood(Asking):

    def test_a_reduce_and_a_shift(self):
        self.yes("+", (REDUCE, SHIFT), good())

    def test_in_another_order(self):
        self.yes("+", (SHIFT, REDUCE), paper_of(WAY, ROW, RIGHT, LEFT))

    def test_a_shift_to_whatever_whole_number(self):
        for number in (0, -1, 7, 300, 10 ** 5000, -10 ** 30):
            self.yes("+", (REDUCE, ("shift", number)), good())

    def test_other_trees(self):
        left = ("{0 {0 {1 n} + {1 n}} + {0 {1 n} + {1 n}}}", [0], 3)
        right = ("{0 {1 n} + {0 {1 n} + {0 {1 n} + {1 n}}}}", [2], 1)
        for one in (LEFT, left):
            for other in (RIGHT, right):
                self.yes("+", (REDUCE, SHIFT), paper_of(WAY, ROW, one, other))

    def test_another_row_for_the_same_way(self):
        row = ["n", "+", "n", "+", "n"]
        left = ("{0 {0 {0 {1 n} + {1 n}} + {1 n}} + {1 n}}", [0], 3)
        right = ("{0 {0 {1 n} + {1 n}} + {0 {1 n} + {1 n}}}", [2], 1)
        self.yes("+", (REDUCE, SHIFT), paper_of(WAY, row, left, right))
        self.no("+", (REDUCE, SHIFT), paper_of(WAY, row, left, RIGHT))
        self.no("+", (REDUCE, SHIFT), paper_of(WAY, row, LEFT, right))
        self.no("+", (REDUCE, SHIFT), paper_of(WAY, ROW, LEFT, right))

    def test_accept(self):
        self.yes("$", (ACCEPT, REDUCE), paper_of(["S"], ["a"], DONE, ONCE_MORE), text=LOOP)
        self.yes("$", (REDUCE, ACCEPT), paper_of(["S"], ["a"], ONCE_MORE, DONE), text=LOOP)
        self.yes("$", (ACCEPT, REDUCE), paper_of(["S"], ["a"], ("{0 {0 {1 a}}}", None, None), ONCE_MORE), text=LOOP)

    def test_two_reduces_and_three_things(self):
        text = "S : A x | B x | a x\nA : a\nB : a"
        grounds = [("{0 {3 a} x}", [0], 1), ("{1 {4 a} x}", [0], 1), ("{2 a x}", [], 1)]
        entries = (("reduce", 3), ("reduce", 4), ("shift", 7))
        self.yes("x", entries, paper_of(["a"], ["a"], *grounds), text=text)
        for out in range(3):
            left = [place for place in range(3) if place != out]
            self.yes("x", tuple(entries[place] for place in left),
                     paper_of(["a"], ["a"], *[grounds[place] for place in left]), text=text)

    def test_of_rules_without_symbols(self):
        text = "S : A a\nA : a | ~"
        paper = paper_of([], [], ("{0 {2} a}", [0], 0), ("{0 {1 a} a}", [0], 0))
        self.yes("a", (("reduce", 2), ("shift", 1)), paper, text=text)
        self.no("$", (("reduce", 2), ("shift", 1)), paper, text=text)

    def test_grammars_that_are_not_clean_or_vast(self):
        for text in (PLUS + "\nD : D d | E E", PLUS + "\nA : B B B\nB : C C C C\nC : c c c c"):
            self.yes("+", (REDUCE, SHIFT), good(), text=text)
        for text in (DEAD, BARE_FORTY_ONE):
            self.no("+", (REDUCE, SHIFT), good(), text=text)

    def test_ranks_change_nothing(self):
        for ranks in ("left +\n", "right +\n", "none +\n"):
            self.yes("+", (REDUCE, SHIFT), good(), text=ranks + PLUS)


class TestForgedEntries(Asking):

    def test_too_few(self):
        self.no("+", (), paper_of(WAY, ROW))
        self.no("+", (REDUCE,), paper_of(WAY, ROW, LEFT))
        self.no("+", (SHIFT,), paper_of(WAY, ROW, RIGHT))
        self.no("$", (ACCEPT,), paper_of(["S"], ["a"], DONE), text=LOOP)

    def test_doubled(self):
        self.no("+", (REDUCE, REDUCE), paper_of(WAY, ROW, LEFT, LEFT))
        self.no("+", (SHIFT, SHIFT), paper_of(WAY, ROW, RIGHT, RIGHT))
        self.no("+", (REDUCE, SHIFT, REDUCE), paper_of(WAY, ROW, LEFT, RIGHT, LEFT))
        self.no("$", (ACCEPT, ACCEPT), paper_of(["S"], ["a"], DONE, DONE), text=LOOP)

    def test_two_shifts(self):
        self.no("+", (("shift", 3), ("shift", 4)), paper_of(WAY, ROW, RIGHT, RIGHT))
        self.no("+", (REDUCE, ("shift", 3), ("shift", 4)), paper_of(WAY, ROW, LEFT, RIGHT, RIGHT))

    def test_another_order_than_the_grounds(self):
        self.no("+", (SHIFT, REDUCE), good())
        self.no("+", (REDUCE, SHIFT), paper_of(WAY, ROW, RIGHT, LEFT))

    def test_other_numbers_of_rules(self):
        for number in (1, 2, 19, -1, 10 ** 5000):
            self.no("+", (("reduce", number), SHIFT), good())

    def test_other_words(self):
        for entries in ((("stop",), SHIFT), (("open",), SHIFT), (REDUCE, ("stop",)), (REDUCE, ("shift",)),
                        (("reduce",), SHIFT), (("reduce", 0, 0), SHIFT), (REDUCE, ("shift", 3, 3)), (("accept",), SHIFT),
                        (REDUCE, ("accept", 3)), ((), SHIFT), (REDUCE, ()), ("reduce", "shift"), (["reduce", 0], SHIFT),
                        (REDUCE, ["shift", 3]), (("Reduce", 0), SHIFT), (("shift", 0), SHIFT), (REDUCE, ("reduce", 3))):
            self.no("+", entries, good())

    def test_other_kinds(self):
        for thing in all_things() + [[REDUCE, SHIFT], {REDUCE: 0, SHIFT: 1}, frozenset([REDUCE, SHIFT]), REDUCE, SHIFT]:
            self.no("+", thing, good())

    def test_things_in_the_place_of_each(self):
        for thing in all_things():
            self.no("+", (thing, SHIFT), good())
            self.no("+", (REDUCE, thing), good())
            self.no("+", ((thing, 0), SHIFT), good())
            self.no("+", (REDUCE, (thing, 3)), good())
            if type(thing) is not int or thing != 0:
                self.no("+", (("reduce", thing), SHIFT), good())
            if type(thing) is not int:
                self.no("+", (REDUCE, ("shift", thing)), good())
            self.no("$", ((thing,), REDUCE), paper_of(["S"], ["a"], DONE, ONCE_MORE), text=LOOP)
            self.no("+", (REDUCE, SHIFT, thing), paper_of(WAY, ROW, LEFT, RIGHT, RIGHT))

    def test_truths_and_numbers_that_are_not_whole(self):
        for number in (0.0, False, 0j):
            self.no("+", (("reduce", number), SHIFT), good())
        for number in (3.0, True, 3j):
            self.no("+", (REDUCE, ("shift", number)), good())


class TestForgedAhead(Asking):

    def test_others(self):
        for thing in all_things() + ["E", "(", "+ ", "++", ["+"], ("+",), b"+"]:
            self.no(thing, (REDUCE, SHIFT), good())
            if type(thing) is not str or thing != "$":
                self.no(thing, (ACCEPT, REDUCE), paper_of(["S"], ["a"], DONE, ONCE_MORE), text=LOOP)

    def test_a_head_is_never_shifted(self):
        text = "S : S S | a"
        left = ("{0 {0 {1 a} {1 a}} {1 a}}", [0], 2)
        right = ("{0 {1 a} {0 {1 a} {1 a}}}", [1], 1)
        self.no("S", (REDUCE, SHIFT), paper_of(["S", "S"], ["a", "a"], left, right), text=text)
        self.no("a", (REDUCE, SHIFT), paper_of(["S", "S"], ["a", "a"], left, right), text=text)
        self.yes("a", (REDUCE, SHIFT), paper_of(["S", "S"], ["a", "a"], left, ("{0 {1 a} {0 {1 a} {1 a}}}", [1, 1], 0)),
                 text=text)

    def test_accept_with_a_sign_ahead(self):
        text = "S : S | S a | a"
        self.no("a", (ACCEPT, SHIFT), paper_of(["S"], ["a"], ("{2 a}", None, None), ("{1 {2 a} a}", [], 1)), text=text)
        for sign in "!&":
            text = f"S : S | S {sign} | a"
            paper = paper_of(["S"], ["a"], ("{2 a}", None, None), (f"{{1 {{2 a}} {sign}}}", [], 1))
            self.no(sign, (ACCEPT, SHIFT), paper, text=text)

    def test_a_reduce_with_the_end_mark_and_a_shift(self):
        text = "S : S | S a | a"
        self.yes("a", (("reduce", 0), SHIFT), paper_of(["S"], ["a"], ("{1 {0 {2 a}} a}", [0], 1), ("{1 {2 a} a}", [], 1)),
                 text=text)
        self.no("$", (("reduce", 0), SHIFT), paper_of(["S"], ["a"], ("{0 {2 a}}", [], 1), ("{1 {2 a} a}", [], 1)),
                text=text)


class TestForgedWaysAndRows(Asking):

    def test_other_ways(self):
        for way in ([], ["E"], ["E", "+"], ["E", "+", "E", "+"], ["+", "E", "E"], ["n", "+", "n"], ["E", "+", "F"],
                    ["E", "+", ""], ["E", "$", "E"], ["E+E"], ["E", "E", "+"]):
            self.no("+", (REDUCE, SHIFT), (way,) + good()[1:])

    def test_other_rows(self):
        for row in ([], ["n"], ["n", "+"], ["n", "+", "n", "+"], ["n", "+", "n", "+", "n"], ["+", "n", "n"],
                    ["E", "+", "E"], ["n", "+", "m"], ["n", "+", ""], ["n+n"], ["n", "n", "+"]):
            self.no("+", (REDUCE, SHIFT), (WAY, row, good()[2]))

    def test_other_kinds(self):
        way, row, grounds = good()
        for thing in all_things() + [tuple(WAY), tuple(ROW), "E+E", "n+n", iter(WAY), dict.fromkeys(WAY)]:
            self.no("+", (REDUCE, SHIFT), (thing, row, grounds))
            self.no("+", (REDUCE, SHIFT), (way, thing, grounds))

    def test_things_in_them(self):
        for thing in all_things():
            for place in range(3):
                if (type(thing), thing) != (str, WAY[place]):
                    way = WAY[:place] + [thing] + WAY[place + 1:]
                    self.no("+", (REDUCE, SHIFT), (way,) + good()[1:])
                if (type(thing), thing) != (str, ROW[place]):
                    row = ROW[:place] + [thing] + ROW[place + 1:]
                    self.no("+", (REDUCE, SHIFT), (WAY, row, good()[2]))
            self.no("$", (ACCEPT, REDUCE), ([thing], ["a"], paper_of([], [], DONE, ONCE_MORE)[2]), text=LOOP)
            if (type(thing), thing) != (str, "a"):
                self.no("$", (ACCEPT, REDUCE), (["S"], [thing], paper_of([], [], DONE, ONCE_MORE)[2]), text=LOOP)

    def test_of_accept(self):
        grounds = paper_of([], [], DONE, ONCE_MORE)[2]
        for way, row in ((["S", "S"], ["a"]), ([], ["a"]), (["A"], ["a"]), (["a"], ["a"]), (["S"], []), (["S"], ["a", "a"])):
            self.no("$", (ACCEPT, REDUCE), (way, row, grounds), text=LOOP)

    def test_of_accept_with_a_way_without_symbols(self):
        text = "S : A | ~\nA : ~"
        paper = paper_of([], [], ("{1}", None, None), ("{0 {2}}", [0], 0))
        self.no("$", (ACCEPT, ("reduce", 2)), paper, text=text)
        self.yes("$", (("reduce", 1), ("reduce", 2)), paper_of([], [], ("{1}", [], 0), ("{0 {2}}", [0], 0)), text=text)

    def test_of_accept_alone(self):
        """The other ground is right with the way and the row, so that only accept's own is wrong."""
        text = "S : S | a S | a"
        once = ("{1 a {2 a}}", [], 2)
        self.yes("$", (ACCEPT, REDUCE), paper_of(["S"], ["a", "a"], ("{1 a {2 a}}", None, None), ("{0 {1 a {2 a}}}", [], 1)),
                 text=text)
        self.no("$", (ACCEPT, REDUCE), paper_of(["S"], ["a", "a"], ("{2 a}", None, None), ("{0 {1 a {2 a}}}", [], 1)),
                text=text)
        self.no("$", (ACCEPT, ("reduce", 1)), paper_of(["a", "S"], ["a", "a"], ("{1 a {2 a}}", None, None), once), text=text)


class TestForgedPapers(Asking):

    def test_other_kinds(self):
        way, row, grounds = good()
        for thing in all_things() + [[way, row, grounds], (way, row), (way, row, grounds, grounds), (way, row) + grounds,
                                     {0: way, 1: row, 2: grounds}, (row, way, grounds), (grounds, way, row), grounds]:
            self.no("+", (REDUCE, SHIFT), thing)

    def test_parts_left_out_or_doubled(self):
        way, row, grounds = good()
        for told in (grounds[:1], grounds[1:], (), grounds * 2, grounds + grounds[:1], (grounds[0],) * 2, (grounds[1],) * 2,
                     grounds[::-1], list(grounds), grounds[0], dict(enumerate(grounds)), (grounds,), (grounds, grounds)):
            self.no("+", (REDUCE, SHIFT), (way, row, told))

    def test_things_in_the_place_of_grounds(self):
        way, row, grounds = good()
        for thing in all_things() + [list(grounds[0]), grounds[0][:2], grounds[0] + (3,), grounds[0][::-1]]:
            self.no("+", (REDUCE, SHIFT), (way, row, thing))
            self.no("+", (REDUCE, SHIFT), (way, row, (thing, grounds[1])))
            self.no("+", (REDUCE, SHIFT), (way, row, (grounds[0], thing)))

    def test_things_in_the_place_of_each_part_of_a_ground(self):
        way, row, grounds = good()
        for which in range(2):
            for place in range(3):
                for thing in all_things():
                    forged = grounds[which][:place] + (thing,) + grounds[which][place + 1:]
                    told = grounds[:which] + (forged,) + grounds[which + 1:]
                    if place == 0 or type(thing) not in (int, list) or thing != grounds[which][place]:
                        self.no("+", (REDUCE, SHIFT), (way, row, told))

    def test_things_in_the_place_of_each_part_of_accept_s_ground(self):
        way, row, grounds = paper_of(["S"], ["a"], DONE, ONCE_MORE)
        for place in range(3):
            for thing in all_things() + [[], 0, 1]:
                if place == 0 or thing is not None:
                    forged = grounds[0][:place] + (thing,) + grounds[0][place + 1:]
                    self.no("$", (ACCEPT, REDUCE), (way, row, (forged, grounds[1])), text=LOOP)

    def test_paths(self):
        way, row, grounds = good()
        for path in ([], [1], [2], [0, 0], [0, 1], [3], [-3], [-1], [0, 0, 0], [False], [0.0], ["0"], [None], [[0]], (0,),
                     [EqualToAll()], [10 ** 30], deep_list(), None):
            self.no("+", (REDUCE, SHIFT), (way, row, ((grounds[0][0], path, 3), grounds[1])))
        for path in ([], [0], [1], [2, 0], [2, 1], [2, 2], [True], [2.0], (2,), [-1], None):
            self.no("+", (REDUCE, SHIFT), (way, row, (grounds[0], (grounds[1][0], path, 1))))

    def test_dots(self):
        way, row, grounds = good()
        for dot in (0, 1, 2, 4, -1, 3.0, "3", None, [3], EqualToAll()):
            self.no("+", (REDUCE, SHIFT), (way, row, (grounds[0][:2] + (dot,), grounds[1])))
        for dot in (0, 2, 3, 4, -2, -3, True, 1.0, "1", None, [1], EqualToAll()):
            self.no("+", (REDUCE, SHIFT), (way, row, (grounds[0], grounds[1][:2] + (dot,))))

    def test_a_dot_that_is_a_truth(self):
        text = "S : A x | B x\nA : a\nB : a"
        grounds = [("{0 {2 a} x}", [0], 1), ("{1 {3 a} x}", [0], 1)]
        entries = (("reduce", 2), ("reduce", 3))
        self.yes("x", entries, paper_of(["a"], ["a"], *grounds), text=text)
        for which in range(2):
            forged = list(grounds)
            forged[which] = grounds[which][:2] + (True,)
            self.no("x", entries, paper_of(["a"], ["a"], *forged), text=text)
            forged[which] = (grounds[which][0], [False], 1)
            self.no("x", entries, paper_of(["a"], ["a"], *forged), text=text)

    def test_a_dot_at_the_end_for_a_shift(self):
        text = "S : A x\nA : a | a y"
        paper = paper_of(["a"], ["a"], ("{0 {1 a} x}", [0], 1), ("{0 {1 a} x}", [0], 1))
        self.no("x", (("reduce", 1), ("shift", 0)), paper, text=text)

    def test_a_dot_ahead_of_the_end_for_a_reduce(self):
        text = "S : A B b\nA : a\nB : ~ | b"
        self.no("b", (("reduce", 0), ("shift", 4)), paper_of(["A"], ["a"], ("{0 {1 a} {2} b}", [], 1),
                                                             ("{0 {1 a} {3 b} b}", [1], 0)), text=text)
        self.yes("b", (("reduce", 2), ("shift", 4)), paper_of(["A"], ["a"], ("{0 {1 a} {2} b}", [1], 0),
                                                              ("{0 {1 a} {3 b} b}", [1], 0)), text=text)

    def test_what_stands_behind(self):
        text = "S : A x | A y | a x\nA : a"
        self.no("x", (("reduce", 3), ("shift", 4)), paper_of(["a"], ["a"], ("{1 {3 a} y}", [0], 1), ("{2 a x}", [], 1)),
                text=text)
        self.yes("x", (("reduce", 3), ("shift", 4)), paper_of(["a"], ["a"], ("{0 {3 a} x}", [0], 1), ("{2 a x}", [], 1)),
                 text=text)

    def test_leaves_that_are_not_the_row_though_the_way_is(self):
        text = "S : A x B | A x\nA : a | b\nB : ~"
        good_one = paper_of(["A", "x"], ["a", "x"], ("{0 {2 a} x {4}}", [2], 0), ("{1 {2 a} x}", [], 2))
        self.yes("$", (("reduce", 4), ("reduce", 1)), good_one, text=text)
        for one, other in ("ab", "ba", "bb"):
            number = {"a": 2, "b": 3}
            paper = paper_of(["A", "x"], ["a", "x"], (f"{{0 {{{number[one]} {one}}} x {{4}}}}", [2], 0),
                             (f"{{1 {{{number[other]} {other}}} x}}", [], 2))
            self.no("$", (("reduce", 4), ("reduce", 1)), paper, text=text)


class TestForgedTrees(Asking):

    def with_trees(self, one, other):
        way, row, grounds = good()
        return (way, row, ((one,) + grounds[0][1:], (other,) + grounds[1][1:]))

    def test_other_trees(self):
        left, right = (told[0] for told in good()[2])
        others = [Leaf("E"), Leaf("n"), Leaf("$"), Leaf(""), Leaf("%" * 50), Node(0, []), Node(1, [Leaf("n")]), Node(19, []),
                  Node(0, [left, Leaf("+")]), Node(0, [left, Leaf("-"), right]), Node(7, left.children),
                  Node(1, left.children), Node(0, [Leaf("E"), Leaf("+"), Leaf("E")]), deep_tree(500), wide_tree(2000)]
        for tree in others:
            self.no("+", (REDUCE, SHIFT), self.with_trees(tree, right))
            self.no("+", (REDUCE, SHIFT), self.with_trees(left, tree))

    def test_each_part_of_the_trees_exchanged(self):
        trees = [told[0] for told in good()[2]]
        for which, tree in enumerate(trees):
            for path, node in nodes_with_paths(tree):
                for other in (Leaf("n"), Leaf("E"), Leaf("x"), Node(2, [Leaf("n")]), Node(1, []), Node(1, [Leaf("m")]),
                              Node(1, [Leaf("n"), Leaf("n")]), Node(0, node.children[:2])):
                    forged = list(trees)
                    forged[which] = self.put(tree, path, other)
                    self.no("+", (REDUCE, SHIFT), self.with_trees(*forged))

    def put(self, tree, path, other):
        if not path:
            return other
        children = list(tree.children)
        children[path[0]] = self.put(children[path[0]], path[1:], other)
        return Node(tree.number, children)

    def test_of_another_symbol_than_the_start(self):
        text = "S : E\nE : E + E | n"
        left, right = ("{1 {1 {2 n} + {2 n}} + {2 n}}", [0], 3), ("{1 {2 n} + {1 {2 n} + {2 n}}}", [2], 1)
        self.no("+", (("reduce", 1), SHIFT), paper_of(WAY, ROW, left, right), text=text)
        left, right = ("{0 " + left[0] + "}", [0, 0], 3), ("{0 " + right[0] + "}", [0, 2], 1)
        self.yes("+", (("reduce", 1), SHIFT), paper_of(WAY, ROW, left, right), text=text)

    def test_nodes_of_things_that_are_no_trees(self):
        left, right = (told[0] for told in good()[2])
        for thing in (None, 0, "n", [], EqualToAll(), (0, "n")):
            self.no("+", (REDUCE, SHIFT), self.with_trees(Node(0, [left, Leaf("+"), thing]), right))
            self.no("+", (REDUCE, SHIFT), self.with_trees(left, Node(0, [left, thing, right])))

    def test_deep_and_wide_ones(self):
        deep = read_tree("{1 n}")
        for turn in range(480):
            deep = Node(0, [read_tree("{1 n}"), Leaf("+"), deep])
        left = Node(0, [good()[2][0][0].children[0], Leaf("+"), deep])
        right = Node(0, [read_tree("{1 n}"), Leaf("+"), Node(0, [read_tree("{1 n}"), Leaf("+"), deep])])
        self.yes("+", (REDUCE, SHIFT), self.with_trees(left, right))
        self.no("+", (REDUCE, SHIFT), self.with_trees(right, left))

    def test_a_row_and_a_way_of_more_than_forty(self):
        text = "S : a S | B\nB : a | b"
        one, other = read_tree("{2 a}"), read_tree("{0 a {1 {3 b}}}")
        trees = [Node(1, [one]), other]
        for turn in range(100):
            trees = [Node(0, [Leaf("a"), tree]) for tree in trees]
        grounds = ((trees[0], [1] * 100 + [0], 1), (trees[1], [1] * 101, 0))
        self.no("$", (("reduce", 2), ("shift", 0)), (["a"] * 101, ["a"] * 101, grounds), text=text)
        text = "S : a S | B b | b\nB : ~"
        trees = [read_tree("{1 {3} b}"), read_tree("{2 b}")]
        for turn in range(100):
            trees = [Node(0, [Leaf("a"), tree]) for tree in trees]
        grounds = ((trees[0], [1] * 100 + [0], 0), (trees[1], [1] * 100, 0))
        self.yes("b", (("reduce", 3), ("shift", 0)), (["a"] * 100, ["a"] * 100, grounds), text=text)


class TestBySearch(unittest.TestCase):
    """Papers of all kinds, good, near and far, told as the test's own looking through tells."""

    def grounds_in(self, grammar, trees):
        """A dict from (way, row, ahead) to tuples (entry, ground): all that is right somewhere in the trees."""
        told = {}
        for tree in trees:
            key = ((grammar.start,), tuple(tree.signs()), "$")
            told.setdefault(key, []).append((ACCEPT, (tree, None, None)))
            for path, node in nodes_with_paths(tree):
                for dot in range(len(node.children) + 1):
                    begin = (tuple(own_cut(grammar.rules, tree, path, dot)), tuple(leaves_left_of(tree, path, dot)))
                    place = (tree, list(path), dot)
                    if dot == len(node.children):
                        behind = (leaves_left_of(tree, (), len(tree.children))[len(begin[1]):] + ["$"])[0]
                        told.setdefault(begin + (behind,), []).append((("reduce", node.number), place))
                    elif isinstance(node.children[dot], Leaf):
                        told.setdefault(begin + (node.children[dot].sign,), []).append((("shift", 5), place))
        return told

    def test_all_that_small_trees_show(self):
        count = 0
        for grammar in ranked_grammars(200, seed=78):
            trees = small_trees(grammar.rules, 6, 6)[grammar.start]
            for (way, row, ahead), found in self.grounds_in(grammar, trees).items():
                chosen = dict(found)
                if len(chosen) > 1:
                    paper = (list(way), list(row), tuple(chosen.values()))
                    self.assertIs(is_conflict(grammar, ahead, tuple(chosen), paper), True)
                    self.assertTrue(is_own_conflict(grammar.rules, ahead, tuple(chosen), paper))
                    count += 1
        self.assertGreater(count, 150)

    def changed(self, chance, grammar, trees, ahead, entries, paper):
        """The same with one thing changed by chance."""
        way, row, grounds = paper
        symbols = grammar.heads() + grammar.signs() + ["$"]
        which = chance.randrange(8)
        if which == 0:
            ahead = chance.choice(symbols)
        elif which == 1:
            place = chance.randrange(len(entries))
            other = chance.choice([ACCEPT, ("reduce", chance.randrange(len(grammar.rules))), ("shift", 0), ("stop",)])
            entries = entries[:place] + (other,) + entries[place + 1:]
        elif which == 2:
            place = chance.randrange(len(entries))
            entries = entries[:place] + entries[place + 1:]
            grounds = grounds[:place] + grounds[place + 1:]
        elif which in (3, 4):
            told = list(way) if which == 3 else list(row)
            place = chance.randint(0, len(told))
            told[place:place + chance.randint(0, 1)] = [chance.choice(symbols)] * chance.randint(0, 1)
            way, row = (told, row) if which == 3 else (way, told)
        else:
            place = chance.randrange(len(grounds))
            tree, path, dot = grounds[place]
            if which == 5:
                tree = chance.choice(trees)
            elif which == 6:
                path = chance.choice([None, [], (path or []) + [0], (path or [])[1:], (path or [])[:-1]])
            else:
                dot = chance.choice([None, 0, 1, 2, 3])
            grounds = grounds[:place] + ((tree, path, dot),) + grounds[place + 1:]
        return ahead, entries, (way, row, grounds)

    def test_changed_ones(self):
        chance = random.Random(79)
        answers = {True: 0, False: 0}
        for grammar in ranked_grammars(300, seed=79):
            table = Table(States(grammar))
            trees = small_trees(grammar.rules, 6, 6)[grammar.start]
            for conflict in table.conflicts()[:8]:
                state, ahead, entries = conflict
                paper = conflict_paper(table.states, conflict)
                for turn in range(12):
                    told = (ahead, entries, paper)
                    for once in range(chance.randint(1, 2)):
                        told = self.changed(chance, grammar, trees, *told) if told[1] else told
                    answer = is_conflict(grammar, *told)
                    self.assertIs(answer, is_own_conflict(grammar.rules, *told))
                    answers[answer] += 1
        self.assertGreater(answers[True], 300)
        self.assertGreater(answers[False], 3000)

    def test_paper_of_another_conflict(self):
        for grammar in ranked_grammars(60, seed=80):
            table = Table(States(grammar))
            papers = [(told, conflict_paper(table.states, told)) for told in table.conflicts()[:6]]
            for (state, ahead, entries), one in papers:
                for other, paper in papers:
                    wanted = is_own_conflict(grammar.rules, ahead, entries, paper)
                    self.assertIs(is_conflict(grammar, ahead, entries, paper), wanted)


class TestNothingChanges(unittest.TestCase):

    def test_what_is_handed_in_stays(self):
        grammar = read_grammar(PLUS)
        for ahead in ("+", "$"):
            paper = good()
            trees = [written(told[0]) for told in paper[2]]
            before = copy.deepcopy((paper[0], paper[1], [told[1:] for told in paper[2]]))
            is_conflict(grammar, ahead, (REDUCE, SHIFT), paper)
            self.assertEqual((paper[0], paper[1], [told[1:] for told in paper[2]]), before)
            self.assertEqual([written(told[0]) for told in paper[2]], trees)
            self.assertIs(is_conflict(grammar, "+", (REDUCE, SHIFT), paper), True)


if __name__ == "__main__":
    unittest.main()
