"""[76]: for each conflict a paper is told, with the state's way and a row for it; all else is refused."""

import functools
import unittest

from rulestable.books import fruitful
from rulestable.conflicts import conflict_paper, is_conflict
from rulestable.errors import NoItem
from rulestable.grammartext import read_grammar
from rulestable.states import States
from rulestable.tables import Table
from rulestable.trees import Leaf, Node
from tests.doing import is_own_conflict, leaves_left_of, ranked_grammars
from tests.growing import behind_path, go_down, is_great, part_at, row_of, written
from tests.looking import own_cut
from tests.refusing import Refusing
from tests.texts import SUMS, clean_grammars
from tests.things import EqualToAll, all_things

PLUS = "E : E + E | n"
# In each of them there is a conflict: of two, of three things, with accept, of heads that may be empty.
TEXTS = (PLUS, SUMS, "left +\n" + SUMS, "S : S | a", "S : A | B\nA : a\nB : a", "S : S | A\nA : S | a",
         "S : A x | B x | a x\nA : a\nB : a", "S : i S | i S l S | x", "S : S S | ~", "S : A A A A\nA : a | ~",
         "S : A a\nA : a | ~", "S : a S a | ~", "none + *\nE : E + E | E * E | ( E ) | n", "S : S S | ! | a | &",
         "S : A X | B X\nA : a\nB : a\nX : ! | & | ~", "S : x A B c | x A C c\nA : a | ~\nB : b A | ~\nC : b | ~",
         "S : B B B T\nB : b b b b\nT : T T T | t t t t")


@functools.cache
def smallest(grammar):
    """The smallest trees that the books tell."""
    return fruitful(grammar)


class TestEachConflict(unittest.TestCase):

    def looked_through(self, states, conflict):
        """Each ground's tree gone down by the test itself, with its cut, what stands behind, and the leaves ahead."""
        state, ahead, entries = conflict
        grammar = states.grammar
        paper = conflict_paper(states, conflict)
        self.assertIs(type(paper), tuple)
        way, row, grounds = paper
        self.assertEqual((type(way), type(row), type(grounds)), (list, list, tuple))
        self.assertEqual(way, states.way(state))
        self.assertEqual(row, self.row_along(grammar, way))
        self.assertEqual(len(grounds), len(entries))
        for entry, ground in zip(entries, grounds):
            self.assertEqual((type(ground), len(ground)), (tuple, 3))
            go_down(self, grammar.rules, grammar.start, ground[0])
            self.is_right(grammar, paper, ahead, entry, ground)
        self.assertIs(is_conflict(grammar, ahead, entries, paper), True)
        self.assertTrue(is_own_conflict(grammar.rules, ahead, entries, paper))

    def row_along(self, grammar, way):
        told = smallest(grammar)
        return [sign for symbol in way for sign in (row_of(told[symbol]) if is_great(symbol) else [symbol])]

    def is_right(self, grammar, paper, ahead, entry, ground):
        tree, path, dot = ground
        if entry == ("accept",):
            self.assertEqual((ahead, path, dot, paper[0]), ("$", None, None, [grammar.start]))
            self.assertEqual(row_of(tree), paper[1])
            return
        self.assertEqual((type(path), type(dot)), (list, int))
        node = part_at(tree, path)
        self.assertIs(type(node), Node)
        self.assertEqual(own_cut(grammar.rules, tree, path, dot), paper[0])
        self.assertEqual(leaves_left_of(tree, path, dot), paper[1])
        if entry[0] == "reduce":
            self.assertEqual((node.number, dot), (entry[1], len(node.children)))
            self.assertEqual(behind_path(tree, path), ahead)
        else:
            self.assertIs(type(node.children[dot]), Leaf)
            self.assertEqual(node.children[dot].sign, ahead)

    def test_by_hand(self):
        for text in TEXTS:
            table = Table(States(read_grammar(text)))
            self.assertNotEqual(table.conflicts(), [])
            for conflict in table.conflicts():
                self.looked_through(table.states, conflict)

    def test_many_grammars(self):
        count = 0
        for grammar in ranked_grammars(350, seed=76) + clean_grammars(350, seed=77):
            table = Table(States(grammar))
            for conflict in table.conflicts():
                self.looked_through(table.states, conflict)
                count += 1
        self.assertGreater(count, 1500)

    def test_only_one_right_paper(self):
        states = States(read_grammar(PLUS))
        way, row, grounds = conflict_paper(states, (4, "+", (("reduce", 0), ("shift", 3))))
        self.assertEqual((way, row), (["E", "+", "E"], ["n", "+", "n"]))
        (one, path, dot), (other, under, place) = grounds
        self.assertEqual((written(one), path, dot), ((0, (0, (1, "n"), "+", (1, "n")), "+", (1, "n")), [0], 3))
        self.assertEqual((written(other), under, place), ((0, (1, "n"), "+", (0, (1, "n"), "+", (1, "n"))), [2], 1))

    def test_accept_and_a_reduce(self):
        states = States(read_grammar("S : S | a"))
        way, row, grounds = conflict_paper(states, (1, "$", (("accept",), ("reduce", 0))))
        self.assertEqual((way, row), (["S"], ["a"]))
        self.assertEqual((written(grounds[0][0]), grounds[0][1:]), ((1, "a"), (None, None)))
        self.assertEqual((written(grounds[1][0]), grounds[1][1:]), ((0, (1, "a")), ([], 1)))

    def test_a_reduce_by_a_rule_without_symbols(self):
        states = States(read_grammar("S : A a\nA : a | ~"))
        way, row, grounds = conflict_paper(states, (0, "a", (("reduce", 2), ("shift", states.to(0, "a")))))
        self.assertEqual((way, row), ([], []))
        self.assertEqual((written(grounds[0][0]), grounds[0][1:]), ((0, (2,), "a"), ([0], 0)))
        self.assertEqual((written(grounds[1][0]), grounds[1][1:]), ((0, (1, "a"), "a"), ([0], 0)))

    def test_a_row_of_more_than_forty_signs(self):
        grammar = read_grammar("S : X X U | X X V | a\nX : A A A\nA : B B\nB : b b b b\nU : u\nV : u")
        table = Table(States(grammar))
        self.assertEqual([told[1:] for told in table.conflicts()], [("$", (("reduce", 6), ("reduce", 7)))])
        way, row, grounds = conflict_paper(table.states, table.conflicts()[0])
        self.assertEqual((way, row), (["X", "X", "u"], ["b"] * 48 + ["u"]))
        self.looked_through(table.states, table.conflicts()[0])

    def test_conflicts_that_ranks_decide(self):
        states = States(read_grammar("left +\n" + PLUS))
        self.assertEqual(Table(states).open_ones(), [])
        self.looked_through(states, Table(states).conflicts()[0])


class TestRefused(Refusing):

    def setUp(self):
        self.states = States(read_grammar(PLUS))
        self.conflict = (4, "+", (("reduce", 0), ("shift", 3)))

    def test_whatever_things(self):
        things = [thing for thing in all_things() if type(thing) is not EqualToAll]
        for states in (self.states, States(read_grammar("S : a"))):
            for thing in things + [{}, [self.conflict], (self.conflict,)]:
                self.refuses(NoItem, "found", thing, conflict_paper, states, thing)

    def test_things_in_the_place_of_each_part(self):
        for place in range(3):
            for thing in all_things():
                told = self.conflict[:place] + (thing,) + self.conflict[place + 1:]
                if type(thing) is not EqualToAll:
                    self.refuses(NoItem, "found", told, conflict_paper, self.states, told)

    def test_things_in_the_place_of_each_part_of_an_entry(self):
        for thing in all_things():
            if type(thing) is EqualToAll:
                continue
            for entries in ((thing, ("shift", 3)), (("reduce", 0), thing), ((thing, 0), ("shift", 3)),
                            (("reduce", 0), ("shift", thing)), (("reduce", thing), ("shift", 3))):
                if entries != self.conflict[2]:
                    told = (4, "+", entries)
                    self.refuses(NoItem, "found", told, conflict_paper, self.states, told)

    def test_near_ones(self):
        reduce, shift = self.conflict[2]
        for told in ((4, "+"), (4, "+", (reduce, shift), 0), (4, "$", (reduce, shift)), (3, "+", (reduce, shift)),
                     (4, "n", (reduce, shift)), (4, "+", (shift, reduce)), (4, "+", (reduce,)), (4, "+", (shift,)),
                     (4, "+", ()), (4, "+", (reduce, shift, shift)), (4, "+", [reduce, shift]), [4, "+", (reduce, shift)],
                     (4, "+", (reduce, ("shift", 2))), (4, "+", (("reduce", 1), shift)), (4, "+", (["reduce", 0], shift)),
                     (4, "+", (("accept",), shift)), (4, "+", reduce), (5, "+", (reduce, shift)), (-1, "+", (reduce, shift)),
                     (4, "+", 0, "reduce"), (), (4,), ("4", "+", (reduce, shift)), (4, b"+", (reduce, shift))):
            self.refuses(NoItem, "found", told, conflict_paper, self.states, told)

    def test_what_is_no_choice(self):
        for told in ((0, "n", (("shift", 2),)), (1, "$", (("accept",),)), (2, "+", (("reduce", 1),))):
            self.refuses(NoItem, "found", told, conflict_paper, self.states, told)

    def test_conflicts_of_other_states(self):
        others = States(read_grammar("E : E + E | n | m"))
        conflict = Table(others).conflicts()[0]
        self.refuses(NoItem, "found", conflict, conflict_paper, self.states, conflict)
        for states in (States(read_grammar("S : a")), States(read_grammar("S : ~"))):
            self.refuses(NoItem, "found", self.conflict, conflict_paper, states, self.conflict)

    def test_what_python_calls_equal(self):
        wanted = conflict_paper(self.states, self.conflict)
        everything = EqualToAll()
        for told in ((4.0, "+", (("reduce", False), ("shift", 3.0))), everything, (everything,) * 3,
                     (4, everything, self.conflict[2]), (everything, "+", self.conflict[2]),
                     (4, "+", (everything, ("shift", 3 + 0j)))):
            way, row, grounds = conflict_paper(self.states, told)
            self.assertEqual((way, row), wanted[:2])
            self.assertEqual([(written(tree), path, dot) for tree, path, dot in grounds],
                             [(written(tree), path, dot) for tree, path, dot in wanted[2]])
            self.assertTrue(all(type(dot) is int for tree, path, dot in grounds))
            self.assertIs(is_conflict(self.states.grammar, "+", self.conflict[2], (way, row, grounds)), True)

    def test_what_calls_itself_equal_to_all_where_there_is_no_conflict(self):
        thing = EqualToAll()
        self.refuses(NoItem, "found", thing, conflict_paper, States(read_grammar("S : a")), thing)

    def test_equal_to_a_conflict_of_a_later_state(self):
        table = Table(States(read_grammar("S : i S | i S l S | x | S S")))
        self.assertGreater(len(table.conflicts()), 5)
        for state, ahead, entries in table.conflicts():
            told = conflict_paper(table.states, (float(state), ahead, entries))
            self.assertEqual(told[0], table.states.way(state))


class TestNothingChanges(unittest.TestCase):

    def plain(self, paper):
        way, row, grounds = paper
        told = [(written(tree), None if path is None else list(path), dot) for tree, path, dot in grounds]
        return list(way), list(row), told

    def test_lists_told_are_the_askers_own(self):
        for text in TEXTS:
            table = Table(States(read_grammar(text)))
            for conflict in table.conflicts():
                paper = conflict_paper(table.states, conflict)
                before = self.plain(paper)
                paper[0].append("zz")
                paper[1].clear()
                for tree, path, dot in paper[2]:
                    if path is not None:
                        path.append(3)
                self.assertEqual(self.plain(conflict_paper(table.states, conflict)), before)
                self.assertEqual(table.states.way(conflict[0]), before[0])

    def test_the_same_of_another_made_alike(self):
        for text in TEXTS:
            one, other = States(read_grammar(text)), States(read_grammar(text))
            for conflict in Table(one).conflicts():
                self.assertEqual(self.plain(conflict_paper(one, conflict)), self.plain(conflict_paper(other, conflict)))

    def test_what_is_refused_changes_nothing(self):
        states = States(read_grammar(SUMS))
        before = [(states.items(state), states.way(state)) for state in range(states.many())]
        conflicts = Table(states).conflicts()
        for thing in (None, (0, "n", ()), [], {}, conflicts):
            self.assertRaises(NoItem, conflict_paper, states, thing)
        self.assertEqual([(states.items(state), states.way(state)) for state in range(states.many())], before)
        self.assertEqual(Table(states).conflicts(), conflicts)


if __name__ == "__main__":
    unittest.main()
