"""[101] to [104]: many operator grammars and rows, beside the test's own search for all trees, and tables of them."""

import itertools
import random
import unittest

from rulestable.grammar import Grammar
from rulestable.grammartext import read_grammar
from rulestable.laying import Laid
from rulestable.ranked import climbed, is_operators, keeps
from rulestable.reader import Reading
from rulestable.states import States
from rulestable.tables import Table
from rulestable.trees import alike
from tests.climbing import (are_own_operators, grown_by, near_rows, operator_grammars, own_keeps, own_trees, row_by)
from tests.doing import ranked_grammars
from tests.growing import go_down, row_of, some_grammars, written
from tests.looking import signs_of


def changed_by(grammar, chance):
    """The grammar with one change: a rule, a symbol, a rank more, less or another."""
    rules, ranks = list(grammar.rules), list(grammar.ranks)
    place = chance.randrange(len(rules))
    head, body = rules[place]
    change = chance.randrange(6)
    if change == 0 and len(rules) > 1:
        rules.pop(place)
    elif change == 1:
        spot = chance.randrange(len(body))
        symbol = chance.choice(signs_of(rules) + [head, "q"])
        rules[place] = (head, body[:spot] + (symbol,) + body[spot + 1:])
    elif change == 2:
        rules[place] = (head, body[1:])
    elif change == 3 and ranks:
        ranks.pop(chance.randrange(len(ranks)))
    elif change == 4:
        sign = chance.choice(signs_of(rules) + ["q"])
        if not any(sign in signs for side, signs in ranks):
            ranks.append((chance.choice(("left", "right", "none")), (sign,)))
    else:
        rules.append(("Z", (chance.choice(["q", head]),)))
    rules = list(dict.fromkeys(rules))
    return Grammar(rules, ranks[:6]) if len({symbol for symbol in signs_of(rules)}) <= 10 else grammar


def short_rows(grammar, most):
    """All rows of few signs, where the grammar has few, and one that no rule has."""
    signs = signs_of(grammar.rules) + ["zz"]
    while len(signs) ** most > 1500:
        most -= 1
    for size in range(most + 1):
        yield from map(list, itertools.product(signs, repeat=size))


class TestOperatorGrammars(unittest.TestCase):

    def test_those_made_so(self):
        for grammar in operator_grammars(300, seed=101):
            self.assertTrue(are_own_operators(grammar.rules, grammar.ranks))
            self.assertIs(is_operators(grammar), True)

    def test_any_grammar(self):
        for grammar in some_grammars(500, seed=101) + ranked_grammars(200, seed=101):
            self.assertIs(is_operators(grammar), are_own_operators(grammar.rules, grammar.ranks))

    def test_those_with_one_change(self):
        chance, counts = random.Random(102), {True: 0, False: 0}
        for grammar in operator_grammars(800, seed=102):
            other = changed_by(grammar, chance)
            told = is_operators(other)
            self.assertIs(told, are_own_operators(other.rules, other.ranks))
            counts[told] += 1
        self.assertGreater(min(counts.values()), 100, counts)


class TestTrees(unittest.TestCase):

    def looked_through(self, grammar, row):
        """Of all trees of a row those that keep the ranks."""
        trees = own_trees(grammar.rules, row)
        kept = [tree for tree in trees if own_keeps(grammar.rules, grammar.ranks, tree)]
        self.assertLess(len(kept), 2)
        told = climbed(grammar, row)
        self.assertEqual([] if told is None else [written(told)], kept)
        for tree in trees[:40]:
            self.assertIs(keeps(grammar, grown_by(tree)), tree in kept)
        return len(trees), len(kept)

    def test_all_short_rows(self):
        counts = {"with trees": 0, "kept": 0, "without": 0}
        for grammar in operator_grammars(40, seed=103):
            for row in short_rows(grammar, 5):
                trees, kept = self.looked_through(grammar, row)
                counts["with trees"] += trees > 0
                counts["without"] += trees == 0
                counts["kept"] += kept
        self.assertGreater(min(counts.values()), 200, counts)

    def test_longer_rows(self):
        chance, counts = random.Random(104), {"one": 0, "none": 0, "several": 0, "no tree": 0}
        for grammar in operator_grammars(300, seed=104):
            for row in near_rows(grammar, chance, 11):
                trees, kept = self.looked_through(grammar, row)
                counts["one"] += kept
                counts["none"] += trees > 0 and kept == 0
                counts["several"] += trees > 1
                counts["no tree"] += trees == 0
        self.assertGreater(min(counts.values()), 50, counts)

    def test_long_rows(self):
        chance, many = random.Random(105), 0
        for grammar in operator_grammars(300, seed=105):
            row = row_by(grammar, chance, 40)
            tree = climbed(grammar, row)
            if tree is not None:
                many += len(row) > 20
                go_down(self, grammar.rules, grammar.start, tree)
                self.assertEqual(row_of(tree), row)
                self.assertIs(keeps(grammar, tree), True)
                self.assertTrue(own_keeps(grammar.rules, grammar.ranks, written(tree)))
        self.assertGreater(many, 30)


class TestTables(unittest.TestCase):
    """[104]: by a table with ranks just those rows are read of which a tree is told, as this tree."""

    def same(self, grammar, table, row):
        reading, tree = Reading(table, row), climbed(grammar, row)
        self.assertEqual(reading.word(), "refused" if tree is None else "read")
        if tree is not None:
            self.assertTrue(alike(reading.made(), tree))
            self.assertEqual(written(reading.made()), written(tree))
        return tree is not None

    def test_no_choice_is_open(self):
        many = 0
        for grammar in operator_grammars(200, seed=106):
            states = States(grammar)
            self.assertEqual(Table(states).open_ones(), [])
            self.assertEqual(len(Table(states).decided()), len(Table(states).conflicts()))
            many += bool(Table(states).decided())
        self.assertGreater(many, 50)

    def test_the_same_rows_and_trees(self):
        chance, read, refused = random.Random(107), 0, 0
        for grammar in operator_grammars(60, seed=107):
            table = Table(States(grammar))
            rows = list(short_rows(grammar, 4))
            for turn in range(12):
                rows += near_rows(grammar, chance, chance.choice((7, 15, 40)))
            for told in (table, Laid(table)):
                for row in rows:
                    if self.same(grammar, told, row):
                        read += 1
                    else:
                        refused += 1
        self.assertGreater(read, 800)
        self.assertGreater(refused, 1000)

    def test_by_hand(self):
        grammar = read_grammar("none =\nleft + -\nright ^\nE : E + E | E - E | E ^ E | E = E | ( E ) | n")
        table = Table(States(grammar))
        for told in (table, Laid(table)):
            for row, wanted in (("n - n - n", True), ("n ^ n ^ n", True), ("n = n = n", False), ("n = ( n = n )", True),
                                ("n + n = n - n ^ n", True), ("n = n + n = n", False), ("", False), ("( )", False)):
                self.assertIs(self.same(grammar, told, row.split()), wanted)
        self.assertEqual(Reading(table, "n = n + n = n".split()).where(), 5)


if __name__ == "__main__":
    unittest.main()
