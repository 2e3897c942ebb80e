"""[73]: which conflicts ranks decide, and how; the others stay open."""

import unittest

from rulestable.grammar import Grammar
from rulestable.grammartext import read_grammar
from rulestable.states import States
from rulestable.tables import Table
from tests.doing import own_word, ranked_grammars
from tests.texts import TERMS

# The one conflict of each is in state 4 with `+` ahead, between a shift to 3 and a reduce by the rule 0.
PLUS = "E : E + E | n"


def table_of(text, *told):
    return Table(States(read_grammar(text)), *told)


class TestOneConflict(unittest.TestCase):

    def decides(self, ranks, word, entry):
        table = table_of(ranks + PLUS)
        self.assertEqual(table.conflicts(), [(4, "+", (("reduce", 0), ("shift", 3)))])
        self.assertEqual(table.decided(), [(4, "+", 0, word)])
        self.assertEqual(table.open_ones(), [])
        self.assertEqual(table.entry(4, "+"), entry)

    def leaves_open(self, table):
        self.assertEqual(table.conflicts(), [(4, "+", (("reduce", 0), ("shift", 3)))])
        self.assertEqual(table.decided(), [])
        self.assertEqual(table.open_ones(), [(4, "+")])
        self.assertEqual(table.entry(4, "+"), ("open",))

    def test_one_rank_of_each_side(self):
        self.decides("left +\n", "reduce", ("reduce", 0))
        self.decides("right +\n", "shift", ("shift", 3))
        self.decides("none +\n", "stop", ("stop",))

    def test_one_rank_among_others(self):
        self.decides("left a\nright + b\nnone c\n", "shift", ("shift", 3))
        self.decides("none a\nright c\nleft b +\n", "reduce", ("reduce", 0))

    def test_no_ranks(self):
        self.leaves_open(table_of(PLUS))

    def test_ranks_that_are_not_used(self):
        for ranks in ("left +\n", "right +\n", "none +\n"):
            self.leaves_open(table_of(ranks + PLUS, False))
            self.leaves_open(Table(States(read_grammar(ranks + PLUS)), ranked=False))

    def test_ranks_are_used_where_nothing_is_told(self):
        for told in ((), (True,)):
            self.assertEqual(table_of("left +\n" + PLUS, *told).decided(), [(4, "+", 0, "reduce")])

    def test_ranks_of_other_signs(self):
        self.leaves_open(table_of("left n\n" + PLUS))
        self.leaves_open(table_of("left n zz\nright a\n" + PLUS))


class TestRankOfSignAndRule(unittest.TestCase):
    """`S : x S | S y | a`: where x S is there and y is ahead, the rule's rank is that of x."""

    def told(self, ranks):
        table = table_of(ranks + "S : x S | S y | a")
        self.assertEqual(len(table.conflicts()), 1)
        state, ahead, entries = table.conflicts()[0]
        self.assertEqual((ahead, entries), ("y", (("reduce", 0), ("shift", table.states.to(state, "y")))))
        if table.decided():
            self.assertEqual(table.decided()[0][:3], (state, "y", 0))
            self.assertEqual(table.open_ones(), [])
        else:
            self.assertEqual(table.open_ones(), [(state, "y")])
        return (table.decided()[0][3] if table.decided() else None), table.entry(state, "y")[0]

    def test_of_the_sign_alone(self):
        for side in ("left", "right", "none"):
            self.assertEqual(self.told(side + " y\n"), (None, "open"))
            self.assertEqual(self.told("left a\n" + side + " y\n"), (None, "open"))

    def test_of_the_rule_alone(self):
        for side in ("left", "right", "none"):
            self.assertEqual(self.told(side + " x\n"), (None, "open"))
            self.assertEqual(self.told(side + " x zz\nleft a\n"), (None, "open"))

    def test_the_greater_one_whatever_its_side(self):
        for one in ("left", "right", "none"):
            for other in ("left", "right", "none"):
                self.assertEqual(self.told(f"{one} x\n{other} y\n"), ("shift", "shift"))
                self.assertEqual(self.told(f"{one} y\n{other} x\n"), ("reduce", "reduce"))
                self.assertEqual(self.told(f"{one} y\nleft a\n{other} zz x\n"), ("reduce", "reduce"))

    def test_one_rank_of_both(self):
        self.assertEqual(self.told("left x y\n"), ("reduce", "reduce"))
        self.assertEqual(self.told("right x y\n"), ("shift", "shift"))
        self.assertEqual(self.told("none y x\n"), ("stop", "stop"))
        self.assertEqual(self.told("left a\nnone y x\nright zz\n"), ("stop", "stop"))


class TestTheRuleSRank(unittest.TestCase):
    """The last sign of the body that has a rank tells the rule's rank."""

    def word(self, ranks, rules):
        table = table_of(ranks + rules)
        told = [word for state, ahead, number, word in table.decided() if (ahead, number) == ("y", 0)]
        self.assertEqual(len(told), len([1 for told in table.conflicts() if told[1] == "y"]))
        return told[0]

    def test_the_last_one(self):
        rules = "S : x z S | S y | a"
        self.assertEqual(self.word("left x\nleft y\nleft z\n", rules), "reduce")
        self.assertEqual(self.word("left z\nleft y\nleft x\n", rules), "shift")

    def test_the_last_one_that_has_one(self):
        rules = "S : x z S | S y | a"
        self.assertEqual(self.word("left y\nleft x\n", rules), "reduce")
        self.assertEqual(self.word("left x\nleft y\n", rules), "shift")
        self.assertEqual(self.word("none x y\n", rules), "stop")

    def test_none_in_the_body(self):
        table = table_of("left y a x\nS : A S | S y | a\nA : x")
        self.assertEqual([told[1] for told in table.open_ones()], ["y"])
        self.assertEqual(table.decided(), [])

    def test_a_rule_without_symbols(self):
        table = table_of("left a\nS : A a\nA : a | ~")
        self.assertEqual(table.open_ones(), [(0, "a")])
        self.assertEqual(table.decided(), [])


class TestOtherConflicts(unittest.TestCase):
    """Ranks decide between a shift and one reduce alone."""

    def all_open(self, text, many):
        table = table_of(text)
        self.assertEqual(len(table.conflicts()), many)
        self.assertEqual(table.decided(), [])
        self.assertEqual(table.open_ones(), [told[:2] for told in table.conflicts()])
        for state, ahead in table.open_ones():
            self.assertEqual(table.entry(state, ahead), ("open",))

    def test_two_reduces(self):
        self.all_open("left a\nS : A | B\nA : a\nB : a", 1)
        self.all_open("left a x\nleft b\nS : A x | B x\nA : a b\nB : a b", 1)

    def test_accept_and_a_reduce(self):
        self.all_open("left a\nS : S | a", 1)
        self.all_open("right a\nS : A | a\nA : S", 1)

    def test_three_things(self):
        self.all_open("left a\nright x\nS : A x | B x | a x\nA : a\nB : a", 1)
        self.all_open("left x a\nS : A x | B x | a x\nA : a\nB : a", 1)


class TestSeveral(unittest.TestCase):

    RANKS = "left + -\nleft *\nright ^\nnone =\n"
    RULES = "E : E + E | E - E | E * E | E ^ E | E = E | n"

    def test_all_of_a_grammar(self):
        table = table_of(self.RANKS + self.RULES)
        ops = "+-*^="
        ranks = {"+": 0, "-": 0, "*": 1, "^": 2, "=": 3}
        self.assertEqual(table.open_ones(), [])
        self.assertEqual(len(table.decided()), 25)
        self.assertEqual([told[:2] for told in table.decided()], [told[:2] for told in table.conflicts()])
        for state, ahead, number, word in table.decided():
            own = ranks[ops[number]]
            same = {0: "reduce", 1: "reduce", 2: "shift", 3: "stop"}[own]
            wanted = same if own == ranks[ahead] else "shift" if ranks[ahead] > own else "reduce"
            self.assertEqual(word, wanted)
            entry = {"shift": ("shift", table.states.to(state, ahead)), "reduce": ("reduce", number), "stop": ("stop",)}
            self.assertEqual(table.entry(state, ahead), entry[word])

    def test_some_decided_and_some_open(self):
        table = table_of("left +\nnone -\n" + self.RULES)
        told = {(number, ahead): word for state, ahead, number, word in table.decided()}
        self.assertEqual(told, {(0, "+"): "reduce", (0, "-"): "shift", (1, "+"): "reduce", (1, "-"): "stop"})
        self.assertEqual(len(table.open_ones()), 21)
        both = [told[:2] for told in table.decided()] + table.open_ones()
        self.assertEqual(sorted(both), [told[:2] for told in table.conflicts()])
        self.assertEqual(sorted(table.open_ones()), table.open_ones())
        self.assertEqual(sorted(table.decided()), table.decided())

    def test_the_conflicts_are_the_same_without_ranks(self):
        bare = table_of(self.RULES)
        for ranked in (True, False):
            self.assertEqual(table_of(self.RANKS + self.RULES, ranked).conflicts(), bare.conflicts())
        self.assertEqual(table_of(self.RANKS + self.RULES, False).open_ones(), bare.open_ones())
        self.assertEqual(bare.open_ones(), [told[:2] for told in bare.conflicts()])

    def test_ranks_change_nothing_where_there_is_no_conflict(self):
        bare, ranked = table_of(TERMS), table_of("none + * ( )\nleft n ,\n" + TERMS)
        for state in range(bare.many()):
            for ahead in bare.grammar.signs() + ["$"]:
                self.assertEqual(bare.entry(state, ahead), ranked.entry(state, ahead))
        self.assertEqual((ranked.conflicts(), ranked.decided(), ranked.open_ones()), ([], [], []))

    def test_many_grammars(self):
        words = {"shift": 0, "reduce": 0, "stop": 0}
        for grammar in ranked_grammars(600, seed=73):
            table, plain = Table(States(grammar)), Table(States(grammar), False)
            bare = Table(States(Grammar(list(grammar.rules))))
            self.assertEqual(plain.conflicts(), table.conflicts())
            self.assertEqual(bare.conflicts(), table.conflicts())
            self.assertEqual(plain.open_ones(), [told[:2] for told in table.conflicts()])
            self.assertEqual((plain.decided(), bare.decided()), ([], []))
            told = {told[:2]: told[3] for told in table.decided()}
            for state, ahead, entries in table.conflicts():
                self.assertEqual(told.get((state, ahead)), own_word(grammar.rules, grammar.ranks, ahead, entries))
                self.assertIs((state, ahead) in table.open_ones(), (state, ahead) not in told)
            for word in told.values():
                words[word] += 1
        self.assertGreater(min(words.values()), 10)


if __name__ == "__main__":
    unittest.main()
