"""[125], [126]: tables of costs that are below, and those that are not."""

import random
import unittest

from rulestable.costs import is_below
from rulestable.grammartext import read_grammar
from tests.growing import is_great, some_grammars
from tests.looking import signs_of
from tests.paying import cheapest_words, own_costs, own_is_below, parts_of, prices_by
from tests.texts import SUMS, TERMS

ONE = {"a": (3, 5), "b": (2, 7), "c": (4, 1)}
LONGEST = 4


def below(text, row, costs, prices=ONE):
    return is_below(read_grammar(text), row.split(), prices, costs)


def flat(symbols, row, cost):
    """A table with one cost for all symbols and parts."""
    return [(symbol, i, j, cost) for symbol in symbols for i, j in parts_of(row.split())]


def near_ones(costs, chance):
    """Tables with one tuple lower, higher, left out, told twice, or another one."""
    told = []
    for place, (symbol, i, j, cost) in enumerate(costs):
        rest = costs[:place] + costs[place + 1:]
        step = chance.choice((1, 2, 7))
        told += [rest, rest + [(symbol, i, j, cost - step)], rest + [(symbol, i, j, cost + step)],
                 costs + [(symbol, i, j, cost)], [(symbol, i, j, cost - step)] + costs]
    return told


class TestByHand(unittest.TestCase):

    def test_a_sign(self):
        table = [("S", 0, 0, 3), ("a", 0, 0, 3)]
        self.assertIs(below("S : a", "", table), True)
        for costs, wanted in (([("S", 0, 0, 0), ("a", 0, 0, 0)], True), ([("S", 0, 0, 3), ("a", 0, 0, 4)], False),
                              ([("S", 0, 0, 4), ("a", 0, 0, 3)], False), ([("S", 0, 0, 3), ("a", 0, 0, 2)], False),
                              ([("S", 0, 0, 2), ("a", 0, 0, 3)], True), ([("S", 0, 0, 3)], False),
                              ([("a", 0, 0, 3)], False), ([], False), ([("S", 0, 0, -9), ("a", 0, 0, -9)], True),
                              ([("S", 0, 0, -8), ("a", 0, 0, -9)], False)):
            self.assertIs(below("S : a", "", costs), wanted, costs)

    def test_a_sign_that_is_kept_and_others_left_out(self):
        # Of the row `b a a` the sign a costs 7 + 5, as one of both is kept.
        table = [("a", 0, 0, 3), ("a", 0, 1, 10), ("a", 0, 2, 7), ("a", 0, 3, 12), ("a", 1, 1, 3), ("a", 1, 2, 0),
                 ("a", 1, 3, 5), ("a", 2, 2, 3), ("a", 2, 3, 0), ("a", 3, 3, 3)]
        table += [("S",) + told[1:] for told in table]
        self.assertIs(below("S : a", "b a a", table), True)
        for place, told in enumerate(table):
            rest = table[:place] + table[place + 1:]
            self.assertIs(below("S : a", "b a a", rest), False)
            self.assertIs(below("S : a", "b a a", rest + [told[:3] + (told[3] + 1,)]), False)
            self.assertIs(below("S : a", "b a a", rest + [told[:3] + (told[3] - 1,)]), told[0] == "S")

    def test_the_order_of_tuples_is_free(self):
        table = own_costs(read_grammar(SUMS).rules, ["n", "n"], dict.fromkeys("+()n", (1, 1)))
        for told in (table, table[::-1], table[7:] + table[:7]):
            self.assertIs(below(SUMS, "n n", told, dict.fromkeys("+()n", (1, 1))), True)

    def test_rules_with_empty_bodies(self):
        # To leave a out costs 5, b 7.
        table = [("S", 0, 0, 0), ("S", 0, 1, 5), ("S", 0, 2, 12), ("S", 1, 1, 0), ("S", 1, 2, 7), ("S", 2, 2, 0)]
        self.assertIs(below("S : ~", "a b", table), True)
        for place, told in enumerate(table):
            rest = table[:place] + table[place + 1:]
            self.assertIs(below("S : ~", "a b", rest), False)
            self.assertIs(below("S : ~", "a b", rest + [told[:3] + (told[3] + 1,)]), False)
            self.assertIs(below("S : ~", "a b", rest + [told[:3] + (told[3] - 1,)]), True)

    def test_each_way_to_cut(self):
        # The body S S: where one cut comes cheaper than the table tells for the whole, it isn't below.
        text, row = "S : S S | a", "a a"
        table = own_costs(read_grammar(text).rules, row.split(), ONE)
        self.assertIs(below(text, row, table), True)
        known = dict((told[:3], told[3]) for told in table)
        self.assertEqual(known["S", 0, 2], 0)
        for key in (("S", 0, 1), ("S", 1, 2), ("S", 0, 0)):
            lower = [told if told[:3] != key else key + (told[3] - 1,) for told in table]
            self.assertIs(below(text, row, lower), own_is_below(read_grammar(text).rules, row.split(), ONE, lower))

    def test_a_cut_into_four(self):
        text = "S : A A A A | a\nA : b"
        table = own_costs(read_grammar(text).rules, ["b", "b"], ONE)
        self.assertIn(("S", 0, 2, 4), table)
        self.assertIs(below(text, "b b", table), True)
        self.assertIs(below(text, "b b", [told if told[:3] != ("A", 1, 1) else ("A", 1, 1, 1) for told in table]), False)

    def test_beginnings_that_are_none(self):
        table = own_costs(read_grammar("S : a b").rules, ["a", "c"], ONE)
        self.assertIs(below("S : a b", "a c", table), True)
        for more in (("c", 0, 0, 1), ("zz", 0, 0, 1), ("", 0, 0, 1), ("$", 0, 0, 1), ("T", 0, 0, 1), ("S ", 0, 0, 1),
                     ("S", 1, 0, 1), ("S", 2, 1, 1), ("S", 0, 3, 1), ("S", 3, 3, 1), ("S", -1, 0, 1), ("S", -1, -1, 1),
                     ("a", 2, 0, 1), ("a", 0, 3, 1), ("a", -2, 2, 1), ("b", 10 ** 30, 10 ** 30, 1), ("aaaaaaaaa", 0, 0, 0)):
            self.assertIs(below("S : a b", "a c", table + [more]), False, more)
            self.assertIs(below("S : a b", "a c", [more] + table), False, more)

    def test_told_twice(self):
        table = own_costs(read_grammar("S : a b").rules, ["a"], ONE)
        for told in table:
            for cost in (told[3], told[3] - 1, told[3] + 1, 0):
                self.assertIs(below("S : a b", "a", table + [told[:3] + (cost,)]), False)
                self.assertIs(below("S : a b", "a", [told[:3] + (cost,)] + table), False)

    def test_one_cost_for_all(self):
        self.assertIs(below("S : a S | b S b | ~", "a b", flat("Sab", "a b", 0)), True)
        self.assertIs(below("S : a S | b S b | ~", "a b", flat("Sab", "a b", -1)), False)
        self.assertIs(below("S : a | b", "a b", flat("Sab", "a b", -1)), True)
        self.assertIs(below("S : a | b", "a b", flat("Sab", "a b", 1)), False)
        self.assertIs(below("S : a | b", "", flat("Sab", "", 2)), True)
        self.assertIs(below("S : a | b", "", flat("Sab", "", 3)), False)

    def test_grammars_without_signs(self):
        self.assertIs(below("S : S", "", []), True)
        self.assertIs(below("S : S", "a b", []), True)
        self.assertIs(below("S : S", "a", [("S", 0, 1, 9)]), True)
        self.assertIs(below("S : S S", "a", [("S", 0, 1, 9)]), True)
        self.assertIs(below("S : S S", "a", [("S", 0, 0, 9)]), True)
        self.assertIs(below("S : S S", "a", [("S", 0, 0, 9), ("S", 0, 1, 9)]), True)
        self.assertIs(below("S : S S", "a", [("S", 0, 0, -1), ("S", 0, 1, 9)]), False)
        self.assertIs(below("S : ~", "", []), False)

    def test_barren_heads(self):
        text, row = "S : a | B\nB : B b", "a b"
        table = own_costs(read_grammar(text).rules, row.split(), ONE)
        self.assertFalse([told for told in table if told[0] == "B"])
        self.assertIs(below(text, row, table), True)
        # A tuple for a barren head may stand there where all stands there that comes of it.
        self.assertIs(below(text, row, table + [("B", 0, 0, 99)]), False)
        self.assertIs(below(text, row, table + flat("B", row, 99)), True)
        self.assertIs(below(text, row, table + flat("B", row, 3)), False)

    def test_heads_that_are_never_reached(self):
        table = own_costs(read_grammar("S : a\nD : b").rules, [], ONE)
        self.assertIs(below("S : a\nD : b", "", table), True)
        self.assertIs(below("S : a\nD : b", "", [told for told in table if told[0] != "D"]), False)

    def test_ten_signs(self):
        prices = dict.fromkeys("+*()nf,", (1, 2))
        row = "n + n * f ( n , n".split()
        table = own_costs(read_grammar("E : E + E | E * E | ( E ) | n").rules, row[:6], dict(prices, f=(3, 1)))
        self.assertIs(is_below(read_grammar("E : E + E | E * E | ( E ) | n"), row[:6], dict(prices, f=(3, 1)), table), True)
        for count in (9, 10):
            long = (row + ["n"])[:count]
            told = flat(["E", "T", "F", "L"] + list("+*()nf,"), " ".join(long), 0)
            self.assertIs(is_below(read_grammar(TERMS), long, prices, told), True)
            self.assertIs(is_below(read_grammar(TERMS), long, prices, told[:-1]), False)


class TestSearch(unittest.TestCase):

    def some(self, count, seed):
        """Grammars with short rows and prices."""
        chance = random.Random(seed)
        for grammar in some_grammars(count, seed):
            signs = signs_of(grammar.rules) + ["zz"]
            row = [chance.choice(signs) for turn in range(chance.choice((0, 1, 2, 2, 3)))]
            yield chance, grammar, row, prices_by(grammar.rules, row, chance)

    def test_the_least_costs(self):
        for chance, grammar, row, prices in self.some(150, 125):
            table = own_costs(grammar.rules, row, prices)
            self.assertIs(is_below(grammar, row, prices, table), True)
            shuffled = chance.sample(table, len(table))
            self.assertIs(is_below(grammar, row, prices, shuffled), True)

    def test_tables_with_one_change(self):
        counts = {True: 0, False: 0}
        for chance, grammar, row, prices in self.some(60, 126):
            table = own_costs(grammar.rules, row, prices)
            others = near_ones(table, chance)
            for other in chance.sample(others, min(30, len(others))):
                wanted = own_is_below(grammar.rules, row, prices, other)
                self.assertIs(is_below(grammar, row, prices, other), wanted)
                counts[wanted] += 1
        self.assertGreater(min(counts.values()), 60, counts)

    def test_what_makes_the_least_costs_no_more_below(self):
        for chance, grammar, row, prices in self.some(60, 127):
            table = own_costs(grammar.rules, row, prices)
            for place in range(len(table)):
                rest, told = table[:place] + table[place + 1:], table[place]
                self.assertIs(is_below(grammar, row, prices, rest), False)
                self.assertIs(is_below(grammar, row, prices, rest + [told[:3] + (told[3] + 1,)]), False)
                self.assertIs(is_below(grammar, row, prices, table + [told]), False)

    def test_no_yield_comes_cheaper(self):
        # [126]: of whatever table is below, found by making some costs less, and less again where it must be.
        many = 0
        for chance, grammar, row, prices in self.some(60, 128):
            known = {told[:3]: told[3] - chance.choice((0, 0, 1, 3)) for told in own_costs(grammar.rules, row, prices)}
            table = self.made_below(grammar.rules, row, prices, known)
            self.assertIs(is_below(grammar, row, prices, table), True)
            costs = {told[:3]: told[3] for told in table}
            for key, price in cheapest_words(grammar.rules, row, prices, LONGEST).items():
                many += 1
                self.assertLessEqual(costs[key], price)
        self.assertGreater(many, 200)

    def made_below(self, rules, row, prices, known):
        """The costs made less until they are below; none goes below 0, so this comes to an end."""
        known = {key: max(0, cost) for key, cost in known.items()}
        while not own_is_below(rules, row, prices, [key + (cost,) for key, cost in known.items()]):
            known = {key: max(0, cost - 1) if is_great(key[0]) else cost for key, cost in known.items()}
        return [key + (cost,) for key, cost in known.items()]


if __name__ == "__main__":
    unittest.main()
