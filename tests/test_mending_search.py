"""[122], [123], [126]: mends of many rows of small grammars, beside the tests' own searches over rows and deeds."""

import random
import unittest

from rulestable.books import least_sizes
from rulestable.costs import is_below
from rulestable.grammar import Grammar
from rulestable.grammartext import read_grammar
from rulestable.mending import mend
from tests.growing import row_of, small_trees
from tests.looking import least_by_word, signs_of
from tests.mended import Mending
from tests.paying import cheapest_let_by, cheapest_words, least_price, parts_of, prices_by
from tests.reading import PLAIN_TEXTS, TEXTS
from tests.texts import small_grammars


def mendable(count, seed):
    """The tests' texts and those of so many small grammars that have a tree of the start."""
    told = [read_grammar(text) for text in TEXTS + PLAIN_TEXTS] + small_grammars(count, seed)
    return [grammar for grammar in told if grammar.start in least_sizes(grammar)]


def rows_near(grammar, chance, count, longest):
    """Rows that are let by, rows near to them, and others, of at most so many signs."""
    signs = signs_of(grammar.rules) + ["zz"]
    told = [row_of(tree) for tree in small_trees(grammar.rules, 12, 8)[grammar.start]]
    for turn in range(count):
        row = list(chance.choice(told)) if told and chance.random() < 0.7 else []
        for change in range(chance.randint(0, 4)):
            place = chance.randint(0, len(row))
            row[place:place + chance.randint(0, 1)] = [chance.choice(signs)] * chance.randint(0, 1)
        yield row[:longest]


class TestSearch(Mending):

    def test_mends_go_together(self):
        chance, many = random.Random(121), 0
        for grammar in mendable(500, seed=121):
            for row in rows_near(grammar, chance, 3, 6):
                prices = prices_by(grammar.rules, row, chance, chance.choice((1, 3, 20)))
                self.goes_together(grammar, row, prices, mend(grammar, row, prices))
                many += 1
        self.assertGreater(many, 1000)

    def test_rows_of_ten_signs(self):
        chance = random.Random(10)
        for grammar in mendable(15, seed=10):
            row = [chance.choice(signs_of(grammar.rules) + ["zz"]) for turn in range(10)]
            prices = prices_by(grammar.rules, row, chance)
            self.goes_together(grammar, row, prices, mend(grammar, row, prices))

    def test_no_row_comes_at_a_lesser_price(self):
        """By all rows that are let by and so short that they could come cheaper: each put sign costs 1 at least."""
        chance, counts = random.Random(122), {"let by": 0, "mended": 0}
        for grammar in mendable(400, seed=122):
            if len(signs_of(grammar.rules)) > 4:
                continue
            for row in rows_near(grammar, chance, 3, 5):
                prices = prices_by(grammar.rules, row, chance, 4)
                price = mend(grammar, row, prices).price()
                least = min([prices[sign][0] for sign in signs_of(grammar.rules)], default=1)
                longest = len(row) + price // least
                if longest <= 7:
                    words = least_by_word(grammar.rules, longest)[grammar.start]
                    self.assertEqual(min(least_price(prices, row, word) for word in words), price)
                    counts["mended" if price else "let by"] += 1
        self.assertGreater(min(counts.values()), 200, counts)

    def test_no_deeds_are_cheaper(self):
        """By all rows to which deeds lead, the cheapest first, until one is let by."""
        chance, counts = random.Random(123), {}
        for grammar in mendable(100, seed=123):
            for row in rows_near(grammar, chance, 2, 4):
                prices = prices_by(grammar.rules, row, chance, 3)
                found = cheapest_let_by(grammar.rules, row, prices, 150)
                if found is not None:
                    self.assertEqual(mend(grammar, row, prices).price(), found)
                    counts[found] = counts.get(found, 0) + 1
        self.assertGreater(sum(counts.values()), 150)
        for price in range(5):
            self.assertGreater(counts[price], 4, counts)

    def test_no_yield_comes_of_a_part_at_less_than_its_cost(self):
        chance = random.Random(126)
        for grammar in mendable(150, seed=126):
            for row in rows_near(grammar, chance, 2, 4):
                prices = prices_by(grammar.rules, row, chance)
                told = {cost[:3]: cost[3] for cost in mend(grammar, row, prices).costs()}
                for key, price in cheapest_words(grammar.rules, row, prices, 5).items():
                    self.assertLessEqual(told[key], price)

    def test_each_cost_is_the_price_of_a_mend(self):
        """What is told of a head and a part is what the mend of this part costs where this head is the start."""
        chance = random.Random(127)
        for grammar in mendable(80, seed=127):
            for row in rows_near(grammar, chance, 1, 4):
                prices = prices_by(grammar.rules, row, chance)
                told = {cost[:3]: cost[3] for cost in mend(grammar, row, prices).costs()}
                for head in least_sizes(grammar):
                    rules = sorted(grammar.rules, key=lambda rule: rule[0] != head)
                    for i, j in parts_of(row):
                        self.assertEqual(mend(Grammar(rules), row[i:j], prices).price(), told[head, i, j])

    def test_no_table_that_is_below_tells_more(self):
        chance = random.Random(128)
        for grammar in mendable(150, seed=128):
            for row in rows_near(grammar, chance, 1, 3):
                prices = prices_by(grammar.rules, row, chance)
                told = mend(grammar, row, prices).costs()
                self.assertIs(is_below(grammar, row, prices, told), True)
                for place in chance.sample(range(len(told)), min(6, len(told))):
                    more = told[:place] + [told[place][:3] + (told[place][3] + 1,)] + told[place + 1:]
                    self.assertIs(is_below(grammar, row, prices, more), False)
                    self.assertIs(is_below(grammar, row, prices, told[:place] + told[place + 1:]), False)


if __name__ == "__main__":
    unittest.main()
