"""[81] to [83]: which states of one core agree, the groups of states, and what is told of them."""

import unittest

from rulestable.errors import NoState, Open
from rulestable.grammartext import read_grammar
from rulestable.laying import Laid
from rulestable.states import States
from rulestable.tables import Table
from tests.doing import OwnTable, aheads_of, own_groups, own_kept_apart, ranked_grammars, twin_grammars
from tests.looking import heads_of
from tests.refusing import Refusing, spoil
from tests.texts import EMPTY, FORTY, SUMS, TERMS
from tests.things import all_things

PAIRS = "S : C C\nC : c C | d"
# What stands ahead and behind tells whether A or B is meant; the tail is what both are made of.
TWINS = "S : a A d | b B d | a B e | b A e\nA : {0}\nB : {0}"
RANKS = "left +\nright *\n"
TEXTS = (PAIRS, TERMS, FORTY, EMPTY, "S : a", "S : ~", "S : ( S ) S | ~", TWINS.format("c"), TWINS.format("f c"),
         TWINS.format("g f c"), TWINS.format("~"), "left +\n" + SUMS, "right +\n" + SUMS, "none +\n" + SUMS,
         RANKS + "E : E + E | E * E | ( E ) | n", "none a\nA : B B\nB : a B | a", "left a\nA : B B\nB : a B | a",
         "S : b C | a C b | C\nC : c C | ~", "left x\nright y\nS : x S | S y | ( S ) | a")


def table_of(text, *told):
    return Table(States(read_grammar(text)), *told)


def laid_of(text):
    return Laid(table_of(text))


def all_told(laid):
    """All that a laid table tells, of each group and each symbol."""
    heads, aheads = laid.grammar.heads(), laid.grammar.signs() + ["$"]
    entries = {(group, ahead): laid.entry(group, ahead) for group in range(laid.many()) for ahead in aheads}
    goals = {(group, head): laid.to(group, head) for group in range(laid.many()) for head in heads}
    return laid.many(), laid.groups(), laid.kept_apart(), laid.open_ones(), entries, goals


def decided_grammars():
    """Many grammars whose tables have no open choice."""
    found = [read_grammar(text) for text in TEXTS[:-3]] + ranked_grammars(500, seed=81) + twin_grammars(60, seed=82)
    return [grammar for grammar in found if not Table(States(grammar)).open_ones()]


class TestByHand(unittest.TestCase):

    def test_states_of_one_core_that_agree(self):
        laid = laid_of(PAIRS)
        self.assertEqual(laid.groups(), [[0], [1], [2], [3, 6], [4, 7], [5], [8, 9]])
        self.assertEqual(laid.kept_apart(), [])
        self.assertEqual(laid.many(), 7)
        self.assertEqual(laid.open_ones(), [])

    def test_the_entries_of_groups(self):
        laid = laid_of(PAIRS)
        self.assertEqual([laid.entry(0, ahead) for ahead in "cd$"], [("shift", 3), ("shift", 4), None])
        self.assertEqual([laid.entry(1, ahead) for ahead in "cd$"], [("shift", 3), ("shift", 4), None])
        self.assertEqual([laid.entry(2, ahead) for ahead in "cd$"], [None, None, ("accept",)])
        self.assertEqual([laid.entry(3, ahead) for ahead in "cd$"], [("shift", 3), ("shift", 4), None])
        self.assertEqual([laid.entry(4, ahead) for ahead in "cd$"], [("reduce", 2)] * 3)
        self.assertEqual([laid.entry(5, ahead) for ahead in "cd$"], [None, None, ("reduce", 0)])
        self.assertEqual([laid.entry(6, ahead) for ahead in "cd$"], [("reduce", 1)] * 3)
        self.assertEqual([laid.to(group, "C") for group in range(7)], [1, 5, None, 6, None, None, None])
        self.assertEqual([laid.to(group, "S") for group in range(7)], [2] + [None] * 6)

    def test_states_of_one_core_that_do_not_agree(self):
        laid = laid_of(TWINS.format("c"))
        self.assertEqual(laid.kept_apart(), [(6, 9, "d"), (6, 9, "e")])
        self.assertEqual(laid.groups(), [[state] for state in range(14)])
        self.assertEqual((laid.entry(6, "d"), laid.entry(6, "e")), (("reduce", 4), ("reduce", 5)))
        self.assertEqual((laid.entry(9, "d"), laid.entry(9, "e")), (("reduce", 5), ("reduce", 4)))

    def test_parted_at_the_first_turn(self):
        laid = laid_of(TWINS.format("f c"))
        self.assertEqual(own_groups(OwnTable(laid.grammar))[1], 1)
        self.assertEqual(laid.kept_apart(), [(12, 15, "d"), (12, 15, "e")])
        self.assertEqual(laid.groups(), [[state] for state in range(16)])

    def test_parted_at_the_second_turn(self):
        laid = laid_of(TWINS.format("g f c"))
        self.assertEqual(own_groups(OwnTable(laid.grammar))[1], 2)
        self.assertEqual(laid.kept_apart(), [(16, 17, "d"), (16, 17, "e")])
        self.assertEqual(laid.groups(), [[state] for state in range(18)])

    def test_some_of_a_core_that_stay_together_when_it_is_parted(self):
        """Behind x and y the heads stand alike, behind z otherwise; and each tail is two signs long."""
        laid = laid_of("S : x A d | x B e | y A d | y B e | z A e | z B d\nA : f c\nB : f c")
        own = OwnTable(laid.grammar)
        groups, turns = own_groups(own)
        self.assertEqual((laid.groups(), turns), (groups, 1))
        after = [laid.table.states.to(laid.table.states.to(0, sign), "f") for sign in "xyz"]
        self.assertEqual(after[0], after[1])
        self.assertNotEqual(after[0], after[2])

    def test_parted_into_groups_of_several(self):
        """Behind x and y, as behind z and w, what B and C are told by is the same, and what A is told by is not."""
        text = """S : x A d | x B e | x C g | y A h | y B e | y C g | z A d | z B g | z C e | w A h | w B g | w C e
A : f
B : f c
C : f c"""
        laid = laid_of(text)
        states = [laid.table.states.to(laid.table.states.to(0, sign), "f") for sign in "xyzw"]
        self.assertEqual(len(set(states)), 4)
        self.assertEqual({told[2] for told in laid.kept_apart()}, {"e", "g"})
        for group in (states[:2], states[2:]):
            self.assertIn(sorted(group), laid.groups())
            number = laid.groups().index(sorted(group))
            self.assertEqual([laid.entry(number, ahead) for ahead in "dhe"], [("reduce", 12), ("reduce", 12), None])
        self.assertEqual(own_groups(OwnTable(laid.grammar)), (laid.groups(), 1))

    def test_one_quarrel_parts_a_whole_core(self):
        """Of three states of one core two agree, but each is a group by itself."""
        text = "S : x A d | x B e | y A e | y B d | z A a | z B b\nA : c\nB : c"
        laid = laid_of(text)
        states = [laid.table.states.to(laid.table.states.to(0, sign), "c") for sign in "xyz"]
        self.assertEqual({told[:2] for told in laid.kept_apart()}, {(states[0], states[1])})
        for state in states:
            self.assertIn([state], laid.groups())

    def test_a_stop_and_a_reduce(self):
        laid = laid_of("none a\nA : B B\nB : a B | a")
        self.assertEqual(laid.kept_apart(), [(3, 5, "a")])
        laid = laid_of("none +\n" + SUMS)
        inner = [group for group in range(laid.many()) if laid.entry(group, "+") == ("stop",)]
        self.assertEqual(len(inner), 1)
        self.assertEqual(len(laid.groups()[inner[0]]), 2)
        self.assertEqual(laid.entry(inner[0], "$"), ("reduce", 0))
        self.assertEqual(laid.entry(inner[0], ")"), ("reduce", 0))

    def test_of_a_table_in_which_ranks_decide(self):
        for side in ("left", "right", "none"):
            laid = laid_of(side + " +\n" + SUMS)
            self.assertLess(laid.many(), laid.table.many())
            self.assertEqual(laid.kept_apart(), [])

    def test_fields(self):
        table = table_of(PAIRS)
        laid = Laid(table)
        self.assertIs(laid.table, table)
        self.assertIs(laid.grammar, table.grammar)

    def test_without_ranks_where_there_is_no_conflict(self):
        self.assertEqual(all_told(Laid(table_of("left + *\n" + TERMS, False))), all_told(laid_of(TERMS)))


class TestByAPartingOfTheTestsOwn(unittest.TestCase):

    def looked_through(self, grammar):
        table = Table(States(grammar))
        laid, own = Laid(table), OwnTable(grammar)
        groups, turns = own_groups(own)
        self.assertEqual(laid.groups(), groups)
        self.assertEqual(laid.kept_apart(), own_kept_apart(own))
        self.assertEqual(laid.many(), len(groups))
        self.assertEqual(laid.open_ones(), [])
        for group, states in enumerate(groups):
            for ahead in aheads_of(grammar.rules):
                self.assertEqual(laid.entry(group, ahead), self.one_entry(own, groups, states, ahead))
            for head in heads_of(grammar.rules):
                goals = {self.group_of(groups, own.to(state, head)) for state in states}
                self.assertEqual({laid.to(group, head)}, goals)
        return laid, turns

    def group_of(self, groups, state):
        return None if state is None else [number for number, group in enumerate(groups) if state in group][0]

    def one_entry(self, own, groups, states, ahead):
        """The one entry that these states have, but None."""
        entries = {own.entry(state, ahead) for state in states} - {None}
        told = {("shift", self.group_of(groups, entry[1])) if entry[0] == "shift" else entry for entry in entries}
        self.assertLess(len(told), 2)
        return told.pop() if told else None

    def test_by_hand(self):
        for text in TEXTS:
            if not table_of(text).open_ones():
                self.looked_through(read_grammar(text))

    def test_many_grammars(self):
        counts = {"all": 0, "fewer": 0, "apart": 0, "both": 0, "stop": 0, "two turns": 0}
        for grammar in decided_grammars():
            laid, turns = self.looked_through(grammar)
            counts["all"] += 1
            counts["fewer"] += laid.many() < laid.table.many()
            counts["apart"] += laid.kept_apart() != []
            counts["both"] += laid.kept_apart() != [] and laid.many() < laid.table.many()
            counts["stop"] += any(told[3] == "stop" for told in laid.table.decided())
            counts["two turns"] += turns > 1
        self.assertGreater(counts["all"], 100)
        self.assertGreater(min(counts.values()), 2, counts)

    def test_kinds(self):
        for text in (PAIRS, TWINS.format("c")):
            laid = laid_of(text)
            self.assertTrue(all(type(group) is list for group in laid.groups()))
            self.assertTrue(all(type(told) is tuple for told in laid.kept_apart()))
            self.assertEqual([type(told) for told in (laid.groups(), laid.kept_apart(), laid.open_ones())], [list] * 3)

    def test_state_0_is_in_group_0(self):
        for grammar in decided_grammars():
            self.assertIn(0, Laid(Table(States(grammar))).groups()[0])


class TestRefused(Refusing):

    def refused(self, table):
        """With Open of the first open choice, both fields of it."""
        state, ahead = table.open_ones()[0]
        self.refuses(Open, "state", state, Laid, table)
        self.refuses(Open, "ahead", ahead, Laid, table)

    def test_open_choices(self):
        for text in (SUMS, "S : S | a", "S : A | B\nA : a\nB : a", "S : S S | ~", "left +\nE : E + E | E * E | n"):
            self.refused(table_of(text))

    def test_the_first_one_of_several(self):
        table = table_of("left *\nE : E + E | E * E | n")
        self.assertGreater(len(table.open_ones()), 2)
        self.assertNotEqual(table.open_ones()[0], table.conflicts()[0][:2])
        self.refused(table)

    def test_with_the_end_mark_ahead(self):
        self.refuses(Open, "ahead", "$", Laid, table_of("S : S | a"))
        self.refuses(Open, "state", 1, Laid, table_of("S : S | a"))

    def test_decided_with_ranks_and_open_without_them(self):
        Laid(table_of("left +\n" + SUMS))
        self.refused(table_of("left +\n" + SUMS, False))

    def test_many_grammars(self):
        many = 0
        for grammar in ranked_grammars(200, seed=83):
            table = Table(States(grammar))
            if table.open_ones():
                self.refused(table)
                many += 1
        self.assertGreater(many, 30)

    def test_what_is_refused_changes_nothing(self):
        table = table_of("left +\nE : E + E | E * E | n")
        before = (table.conflicts(), table.decided(), table.open_ones())
        self.assertRaises(Open, Laid, table)
        self.assertEqual((table.conflicts(), table.decided(), table.open_ones()), before)


class TestWrongOnes(Refusing):

    def no_groups(self, many):
        things = [thing for thing in all_things() if type(thing) is not int or not 0 <= thing < many]
        return things + [many, many + 1, -many, [0], (0,), "0", 0.0, 1.0]

    def test_groups(self):
        for text in (PAIRS, "S : a", "left +\n" + SUMS):
            laid = laid_of(text)
            for thing in self.no_groups(laid.many()):
                self.refuses(NoState, "state", thing, laid.entry, thing, "$")
                self.refuses(NoState, "state", thing, laid.to, thing, laid.grammar.start)

    def test_numbers_of_states_that_are_none_of_groups(self):
        laid = laid_of(PAIRS)
        for state in range(7, 10):
            laid.table.entry(state, "c")
            self.refuses(NoState, "state", state, laid.entry, state, "c")
            self.refuses(NoState, "state", state, laid.to, state, "C")

    def test_groups_ahead_of_all_else(self):
        laid = laid_of(PAIRS)
        for thing in (None, -1, True, False, laid.many(), "0", [], {}):
            for other in (None, "zz", "Z", "$", 0, [], {}, "C", "c"):
                self.refuses(NoState, "state", thing, laid.entry, thing, other)
                self.refuses(NoState, "state", thing, laid.to, thing, other)

    def test_whatever_is_ahead(self):
        laid = laid_of("left + zz\n" + SUMS)
        things = [thing for thing in all_things() if type(thing) is not str or thing not in ("$", "n")]
        for group in range(laid.many()):
            for thing in things + ["E", "zz", "Z", "a", "(+", ["n"], ("n",), b"n", ["$"], ("$",)]:
                self.assertIsNone(laid.entry(group, thing))

    def test_whatever_is_the_head(self):
        laid = laid_of("left + zz\n" + SUMS)
        things = [thing for thing in all_things() if type(thing) is not str or thing != "E"]
        for group in range(laid.many()):
            for thing in things + ["+", "(", ")", "n", "zz", "$", "Z", "EE", ["E"], ("E",), b"E"]:
                self.assertIsNone(laid.to(group, thing))

    def test_what_is_refused_changes_nothing(self):
        laid = laid_of(PAIRS)
        before = all_told(laid)
        for thing in self.no_groups(laid.many()):
            self.assertRaises(NoState, laid.entry, thing, "c")
            self.assertRaises(NoState, laid.to, thing, "C")
        self.assertEqual(all_told(laid), before)


class TestNothingChanges(unittest.TestCase):

    def test_lists_told_are_the_askers_own(self):
        for text in (PAIRS, TWINS.format("c")):
            laid = laid_of(text)
            before = all_told(laid)
            spoil(self, laid.groups, laid.kept_apart, laid.open_ones)
            self.assertEqual(all_told(laid), before)

    def test_the_same_of_another_made_alike(self):
        for text in TEXTS[:8]:
            if not table_of(text).open_ones():
                self.assertEqual(all_told(laid_of(text)), all_told(laid_of(text)))
                table = table_of(text)
                self.assertEqual(all_told(Laid(table)), all_told(Laid(table)))

    def test_the_table_stays_as_it_was(self):
        table = table_of("none +\n" + SUMS)
        aheads = table.grammar.signs() + ["$"]
        before = [table.entry(state, ahead) for state in range(table.many()) for ahead in aheads]
        all_told(Laid(table))
        self.assertEqual([table.entry(state, ahead) for state in range(table.many()) for ahead in aheads], before)


if __name__ == "__main__":
    unittest.main()
