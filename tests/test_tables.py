"""[71], [72] and [74]: what may be done in a state, where that is more than one thing, and what is told of it."""

import itertools
import unittest

from rulestable.errors import NoState
from rulestable.grammar import Grammar
from rulestable.grammartext import read_grammar
from rulestable.states import States
from rulestable.tables import Table
from tests.doing import OwnTable, aheads_of, ranked_grammars, twin_grammars
from tests.growing import behind_path, nodes_with_paths, row_of, small_trees, written
from tests.looking import heads_of, own_cut
from tests.refusing import Refusing
from tests.texts import BARE_FORTY, EMPTY, FORTY, SUMS, TERMS, THREE_HUNDRED, clean_grammars
from tests.things import all_things

PLUS = "E : E + E | n"
TEXTS = (SUMS, TERMS, EMPTY, FORTY, BARE_FORTY, THREE_HUNDRED, PLUS, "S : a", "S : ~", "S : S S | ~", "S : S | a",
         "S : A A A A\nA : a | ~", "S : ( S ) S | ~", "S : A | B\nA : a\nB : a", "S : S | A\nA : S | a",
         "S : A x | B x | a x\nA : a\nB : a", "S : i S | i S l S | x", "left + *\nE : E + E | E * E | n",
         "none +\nright *\nE : E + E | E * E | n", "left zz\nE : E + E | n", "S : ! S | S ! | !")


def table_of(text, *told):
    return Table(States(read_grammar(text)), *told)


def all_told(table):
    """All that a table tells, of each state and each symbol."""
    heads, aheads = table.grammar.heads(), table.grammar.signs() + ["$"]
    entries = {(state, ahead): table.entry(state, ahead) for state in range(table.many()) for ahead in aheads}
    goals = {(state, head): table.to(state, head) for state in range(table.many()) for head in heads}
    return table.many(), table.conflicts(), table.decided(), table.open_ones(), entries, goals


class TestByHand(unittest.TestCase):

    def test_without_conflicts(self):
        table = table_of("S : a S b | c")
        self.assertEqual((table.conflicts(), table.decided(), table.open_ones()), ([], [], []))
        self.assertEqual(table.many(), 10)
        self.assertEqual(table.entry(0, "a"), ("shift", 2))
        self.assertEqual(table.entry(0, "c"), ("shift", 3))
        self.assertEqual(table.to(0, "S"), 1)
        self.assertEqual(table.entry(1, "$"), ("accept",))
        self.assertEqual(table.entry(3, "$"), ("reduce", 1))
        for state, ahead in ((0, "b"), (0, "$"), (1, "a"), (1, "b"), (1, "c"), (3, "a"), (3, "b"), (3, "c")):
            self.assertIsNone(table.entry(state, ahead))
        self.assertIsNone(table.to(1, "S"))

    def test_what_is_ahead_is_looked_at_and_not_only_the_rule(self):
        table = table_of("S : a S b | c")
        inside = table.states.to(table.states.to(0, "a"), "c")
        self.assertEqual([table.entry(inside, ahead) for ahead in "abc$"], [None, ("reduce", 1), None, None])

    def test_a_shift_and_a_reduce(self):
        table = table_of(PLUS)
        self.assertEqual(table.conflicts(), [(4, "+", (("reduce", 0), ("shift", 3)))])
        self.assertEqual(table.open_ones(), [(4, "+")])
        self.assertEqual(table.entry(4, "+"), ("open",))
        self.assertEqual(table.entry(4, "$"), ("reduce", 0))
        self.assertIsNone(table.entry(4, "n"))
        self.assertEqual(table.entry(1, "+"), ("shift", 3))

    def test_two_reduces(self):
        table = table_of("S : A | B\nA : a\nB : a")
        self.assertEqual(table.conflicts(), [(4, "$", (("reduce", 2), ("reduce", 3)))])
        self.assertEqual(table.open_ones(), [(4, "$")])
        self.assertEqual(table.entry(4, "$"), ("open",))
        self.assertIsNone(table.entry(4, "a"))

    def test_accept_and_a_reduce(self):
        table = table_of("S : S | a")
        self.assertEqual(table.conflicts(), [(1, "$", (("accept",), ("reduce", 0)))])
        self.assertEqual(table.open_ones(), [(1, "$")])
        self.assertEqual(table.entry(1, "$"), ("open",))

    def test_three_things(self):
        table = table_of("S : A x | B x | a x\nA : a\nB : a")
        self.assertEqual(table.conflicts(), [(4, "x", (("reduce", 3), ("reduce", 4), ("shift", 7)))])
        self.assertEqual(table.open_ones(), [(4, "x")])
        table = table_of("S : S | A\nA : S | a")
        self.assertEqual(table.conflicts(), [(2, "$", (("accept",), ("reduce", 0), ("reduce", 2)))])
        self.assertEqual(table.entry(2, "$"), ("open",))

    def test_heads_that_may_be_empty(self):
        table = table_of("S : ~")
        self.assertEqual(table.entry(0, "$"), ("reduce", 0))
        table = table_of("S : A b\nA : a | ~")
        self.assertEqual([table.entry(0, ahead) for ahead in ("a", "b", "$")],
                         [("shift", table.states.to(0, "a")), ("reduce", 2), None])
        self.assertEqual(table.conflicts(), [])
        table = table_of("S : A a\nA : a | ~")
        self.assertEqual(table.conflicts(), [(0, "a", (("reduce", 2), ("shift", table.states.to(0, "a"))))])

    def test_numbers_of_rules_rise_as_numbers(self):
        rules = [("S", ("y",) * count) for count in range(1, 5)] + [("S", ("y", "x") * count) for count in (1, 2)]
        rules += [("S", ("z",)), ("S", ("A",)), ("S", ("B",)), ("A", ("a",)), ("A", ("b",)), ("B", ("a",))]
        table = Table(States(Grammar(rules)))
        self.assertEqual([entries for state, ahead, entries in table.conflicts()], [(("reduce", 9), ("reduce", 11))])

    def test_the_end_mark_stands_among_the_signs_as_a_text(self):
        table = table_of("S : S S | ! | a | &")
        state = table.states.to(table.states.to(0, "S"), "S")
        self.assertEqual([ahead for told, ahead, entries in table.conflicts() if told == state], ["!", "&", "a"])
        table = table_of("S : A X | B X\nA : a\nB : a\nX : ! | & | ~")
        self.assertEqual([told[1] for told in table.conflicts()], ["!", "$", "&"])
        self.assertEqual([told[1] for told in table.open_ones()], ["!", "$", "&"])

    def test_states_rise_as_numbers(self):
        table = table_of("E : E + E | E - E | E * E | ( E ) | n")
        told = [state for state, ahead, entries in table.conflicts()]
        self.assertEqual(told, sorted(told))
        self.assertGreater(max(told), 9)
        self.assertEqual(len(told), 18)

    def test_fields(self):
        states = States(read_grammar(SUMS))
        for table in (Table(states), Table(states, True), Table(states, False), Table(states, ranked=False)):
            self.assertIs(table.states, states)
            self.assertIs(table.grammar, states.grammar)
            self.assertEqual(table.many(), states.many())

    def test_signs_of_ranks_that_no_rule_has(self):
        table = table_of("left + zz\nright a\n" + PLUS)
        for state in range(table.many()):
            for sign in ("zz", "a"):
                self.assertIsNone(table.entry(state, sign))


class TestByTheItems(unittest.TestCase):
    """All that is told, looked through by the test's own going over the items of the states."""

    def looked_through(self, grammar):
        for ranked in (True, False):
            table, own = Table(States(grammar), ranked), OwnTable(grammar, ranked)
            self.assertEqual(table.many(), len(own.states))
            self.assertEqual(table.conflicts(), own.conflicts)
            self.assertEqual(table.decided(), own.decided)
            self.assertEqual(table.open_ones(), own.open_ones)
            for state in range(table.many()):
                for ahead in aheads_of(grammar.rules):
                    self.assertEqual(table.entry(state, ahead), own.entry(state, ahead))
                for head in heads_of(grammar.rules):
                    self.assertEqual(table.to(state, head), own.to(state, head))
        return own.conflicts

    def test_by_hand(self):
        for text in TEXTS:
            self.looked_through(read_grammar(text))

    def test_many_grammars(self):
        kinds = {}
        for grammar in ranked_grammars(700, seed=71) + twin_grammars(40, seed=72):
            for state, ahead, entries in self.looked_through(grammar):
                word = tuple(entry[0] for entry in entries)
                kinds[word] = kinds.get(word, 0) + 1
        for word in (("reduce", "shift"), ("reduce", "reduce"), ("accept", "reduce"), ("reduce", "reduce", "shift"),
                     ("accept", "reduce", "reduce")):
            self.assertGreater(kinds[word], 10)

    def test_kinds(self):
        for text in TEXTS:
            table = table_of(text)
            for told in (table.conflicts(), table.decided(), table.open_ones()):
                self.assertIs(type(told), list)
                self.assertTrue(all(type(one) is tuple for one in told))
            for state, ahead, entries in table.conflicts():
                self.assertEqual((type(state), type(ahead), type(entries)), (int, str, tuple))
                self.assertTrue(all(type(entry) is tuple for entry in entries))
            for entry in all_told(table)[4].values():
                self.assertIn(type(entry), (tuple, type(None)))


class TestByTrees(unittest.TestCase):
    """A search over small trees: what is right in some tree may be done in the state to which the cut leads."""

    def deeds_in(self, grammar, tree):
        """Tuples (way, ahead, entry without a state): all that is right somewhere in the tree."""
        yield (grammar.start,), "$", ("accept",)
        for path, node in nodes_with_paths(tree):
            for dot, child in enumerate(node.children):
                if not hasattr(child, "children"):
                    yield tuple(own_cut(grammar.rules, tree, path, dot)), child.sign, ("shift",)
            whole = tuple(own_cut(grammar.rules, tree, path, len(node.children)))
            yield whole, behind_path(tree, path), ("reduce", node.number)

    def state_by(self, states, way):
        state = 0
        for symbol in way:
            state = states.to(state, symbol)
        return state

    def test_nothing_missing_that_small_trees_have(self):
        choices = 0
        for grammar in clean_grammars(300, seed=75) + [read_grammar(text) for text in TEXTS]:
            table, right = Table(States(grammar)), {}
            for tree in small_trees(grammar.rules, 7, 10)[grammar.start]:
                for way, ahead, entry in self.deeds_in(grammar, tree):
                    right.setdefault((self.state_by(table.states, way), ahead), set()).add(entry)
            conflicts = {told[:2]: told[2] for told in table.conflicts()}
            for (state, ahead), wanted in right.items():
                entries = conflicts.get((state, ahead), (table.entry(state, ahead),))
                self.assertLessEqual(wanted, {entry[:1] if entry[0] == "shift" else entry for entry in entries})
                choices += len(wanted) > 1
        self.assertGreater(choices, 200)

    def test_two_trees_of_a_row_and_so_a_conflict(self):
        many = 0
        for grammar in clean_grammars(600, seed=76):
            seen = {}
            for tree in small_trees(grammar.rules, 8, 12)[grammar.start]:
                seen.setdefault(tuple(row_of(tree)), set()).add(written(tree))
            if any(len(trees) > 1 for trees in seen.values()):
                self.assertNotEqual(Table(States(grammar)).conflicts(), [])
                many += 1
        self.assertGreater(many, 50)


class TestWrongOnes(Refusing):

    def no_states(self, many):
        things = [thing for thing in all_things() if type(thing) is not int or not 0 <= thing < many]
        return things + [many, many + 1, -many, [0], (0,), "0", 0.0, 1.0]

    def test_states(self):
        for ranked in (True, False):
            table = table_of("left +\n" + SUMS, ranked)
            for thing in self.no_states(table.many()):
                self.refuses(NoState, "state", thing, table.entry, thing, "n")
                self.refuses(NoState, "state", thing, table.to, thing, "E")

    def test_states_ahead_of_all_else(self):
        table = table_of(SUMS)
        for thing in (None, -1, True, False, table.many(), "0", [], {}):
            for other in (None, "zz", "Z", "$", 0, [], {}, "E", "n"):
                self.refuses(NoState, "state", thing, table.entry, thing, other)
                self.refuses(NoState, "state", thing, table.to, thing, other)

    def test_whatever_is_ahead(self):
        table = table_of("left + zz\n" + SUMS)
        things = [thing for thing in all_things() if type(thing) is not str or thing not in ("$", "n")]
        for state in range(table.many()):
            for thing in things + ["E", "zz", "Z", "a", "(+", ["n"], ("n",), b"n", ["$"], ("$",)]:
                self.assertIsNone(table.entry(state, thing))

    def test_whatever_is_the_head(self):
        table = table_of("left + zz\n" + SUMS)
        things = [thing for thing in all_things() if type(thing) is not str or thing != "E"]
        for state in range(table.many()):
            for thing in things + ["+", "(", ")", "n", "zz", "$", "Z", "EE", ["E"], ("E",), b"E"]:
                self.assertIsNone(table.to(state, thing))

    def test_what_is_refused_changes_nothing(self):
        table = table_of("left +\n" + TERMS)
        before = all_told(table)
        for thing in self.no_states(table.many()):
            self.assertRaises(NoState, table.entry, thing, "n")
            self.assertRaises(NoState, table.to, thing, "E")
        self.assertEqual(all_told(table), before)


class TestNothingChanges(unittest.TestCase):

    def test_lists_told_are_the_askers_own(self):
        table = table_of("left +\nE : E + E | E * E | n")
        before = all_told(table)
        self.assertTrue(table.conflicts() and table.decided() and table.open_ones())
        for tell in (table.conflicts, table.decided, table.open_ones):
            self.assertIsNot(tell(), tell())
            tell().clear()
            told = tell()
            told[0] = None
            told.append((0, "+"))
        self.assertEqual(all_told(table), before)

    def test_the_same_of_another_made_alike(self):
        for text in TEXTS:
            for ranked in (True, False):
                one, other = table_of(text, ranked), table_of(text, ranked)
                self.assertEqual(all_told(one), all_told(one))
                self.assertEqual(all_told(one), all_told(other))

    def test_states_stay_as_they_were(self):
        states = States(read_grammar("left +\n" + SUMS))
        before = [(states.items(state), states.way(state)) for state in range(states.many())]
        for ranked, other in itertools.product((True, False), repeat=2):
            self.assertEqual(Table(states, ranked).conflicts(), Table(states, other).conflicts())
        self.assertEqual([(states.items(state), states.way(state)) for state in range(states.many())], before)

    def test_rules_and_ranks_that_are_changed_later(self):
        rules, ranks = [("E", ("E", "+", "E")), ("E", ("n",))], [("left", ("+",))]
        table = Table(States(Grammar(rules, ranks)))
        before = all_told(table)
        rules.append(("E", ("m",)))
        ranks.clear()
        self.assertEqual(all_told(table), before)


if __name__ == "__main__":
    unittest.main()
