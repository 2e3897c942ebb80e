"""[51] to [57]: charts of many grammars and rows, against all yields up to some length and all ways to cut rows."""

import itertools
import random
import unittest

from rulestable.chart import Chart, goes_on, is_closed_chart, tree_for, two_trees
from tests.growing import count_of, go_down, is_great, row_of, small_trees, written
from tests.looking import closed_triples, least_by_word, make_closed_triples, tree_counts
from tests.texts import small_grammars

LONGEST = 5
GRAMMARS = small_grammars(90, seed=51)


def rows_for(grammar, chance, words):
    """All rows of at most two signs, one of them a sign that no rule has, and some longer ones that are yields."""
    signs = grammar.signs() + ["zz"]
    rows = [list(row) for length in range(3) for row in itertools.product(signs, repeat=length)]
    longer = sorted({word for head in words for word in words[head] if 2 < len(word) <= LONGEST})
    for word in chance.sample(longer, min(6, len(longer))):
        rows.append(list(word))
        other = list(word)
        other[chance.randrange(len(other))] = chance.choice(signs)
        rows.append(other)
    return rows


class Searching(unittest.TestCase):

    @classmethod
    def setUpClass(cls):
        chance = random.Random(510)
        cls.asked = []
        for grammar in GRAMMARS:
            words = least_by_word(grammar.rules, LONGEST)
            cls.asked.extend((grammar, words, row) for row in rows_for(grammar, chance, words))


class TestSpans(Searching):

    def test_enough_to_look_at(self):
        self.assertGreater(len(self.asked), 1000)
        self.assertGreater(sum(1 for grammar, words, row in self.asked if len(row) > 3), 100)

    def test_just_the_parts_that_are_yields(self):
        for grammar, words, row in self.asked:
            chart = Chart(grammar, row)
            wanted = sorted((head, i, j) for head in words for i in range(len(row) + 1) for j in range(i, len(row) + 1)
                            if tuple(row[i:j]) in words[head])
            self.assertEqual(chart.tells(), wanted)
            for head in words:
                for i in range(-1, len(row) + 2):
                    for j in range(-1, len(row) + 2):
                        self.assertIs(chart.has(head, i, j), (head, i, j) in wanted)

    def test_smallest_trees(self):
        for grammar, words, row in self.asked:
            chart = Chart(grammar, row)
            for head, i, j in chart.tells():
                tree = chart.grown(head, i, j)
                go_down(self, grammar.rules, head, tree)
                self.assertEqual(row_of(tree), row[i:j])
                self.assertEqual(count_of(tree), words[head][tuple(row[i:j])])
                self.assertEqual(tree.size(), count_of(tree))

    def test_trees_of_the_start(self):
        for grammar, words, row in self.asked:
            tree = tree_for(grammar, row)
            self.assertIs(tree is not None, tuple(row) in words[grammar.start])
            if tree is not None:
                go_down(self, grammar.rules, grammar.start, tree)
                self.assertEqual(row_of(tree), row)
                self.assertEqual(count_of(tree), words[grammar.start][tuple(row)])

    def test_nothing_missing_that_small_trees_have(self):
        for grammar in GRAMMARS:
            trees = small_trees(grammar.rules, 7, 25)
            for head in trees:
                for tree in trees[head]:
                    row = row_of(tree)
                    told = Chart(grammar, row).grown(head, 0, len(row))
                    self.assertLessEqual(count_of(told), count_of(tree))


class TestClosedLists(Searching):

    def same(self, grammar, row, triples):
        wanted = closed_triples(grammar.rules, row, triples)
        self.assertIs(is_closed_chart(grammar, row, triples), wanted)
        return wanted

    def test_what_charts_tell_and_one_less(self):
        for grammar, words, row in self.asked:
            spans = Chart(grammar, row).tells()
            self.assertEqual(set(spans), make_closed_triples(grammar.rules, row))
            self.assertIs(is_closed_chart(grammar, row, spans), True)
            for span in spans:
                less = [other for other in spans if other != span]
                self.assertIs(is_closed_chart(grammar, row, less), False)

    def test_one_more(self):
        chance = random.Random(54)
        answers = {True: 0, False: 0}
        for grammar, words, row in self.asked:
            spans = Chart(grammar, row).tells()
            keys = [(symbol, i, j) for symbol in grammar.heads() + grammar.signs() + ["Z", "", "$"]
                    for i in range(-1, len(row) + 2) for j in range(-1, len(row) + 2)]
            for key in chance.sample(keys, 12):
                answers[self.same(grammar, row, [key] + spans)] += 1
        self.assertGreater(min(answers.values()), 100)

    def test_others_that_are_closed_have_all_spans(self):
        chance = random.Random(540)
        for grammar, words, row in self.asked:
            keys = [(head, i, j) for head in grammar.heads() for i in range(-1, len(row) + 2)
                    for j in range(-1, len(row) + 2)]
            told = sorted(make_closed_triples(grammar.rules, row, chance.sample(keys, 2)))
            self.assertIs(is_closed_chart(grammar, row, told), True)
            self.assertLessEqual(set(Chart(grammar, row).tells()), set(told))
            gone = chance.choice(told)
            self.same(grammar, row, [key for key in told if key != gone])

    def test_what_is_closed_has_the_spans_of_small_trees(self):
        chance = random.Random(542)
        for grammar in GRAMMARS:
            keys = [(head, i, j) for head in grammar.heads() for i in range(4) for j in range(4)]
            trees = small_trees(grammar.rules, 6, 4)
            for head in trees:
                for tree in trees[head]:
                    row = row_of(tree)
                    triples = sorted(make_closed_triples(grammar.rules, row, chance.sample(keys, 1)))
                    self.assertIs(is_closed_chart(grammar, row, triples), True)
                    self.assertIn((head, 0, len(row)), triples)
                    less = [triple for triple in triples if triple != (head, 0, len(row))]
                    self.assertIs(is_closed_chart(grammar, row, less), False)

    def test_any_lists(self):
        chance = random.Random(541)
        for grammar, words, row in self.asked:
            keys = [(head, i, j) for head in grammar.heads() for i in range(len(row) + 1) for j in range(len(row) + 1)]
            self.same(grammar, row, [key for key in keys if chance.random() < 0.5])
            self.same(grammar, row, [key for key in keys if chance.random() < 0.9])
            self.same(grammar, row, keys)


class TestTwoTrees(Searching):

    def test_just_where_there_are_two(self):
        answers = {0: 0, 1: 0, 2: 0}
        for grammar, words, row in self.asked:
            count = tree_counts(grammar.rules, row).get((grammar.start, 0, len(row)), 0)
            answers[count] += 1
            told = two_trees(grammar, row)
            self.assertIs(told is not None, count == 2)
            if told is not None:
                self.assertIs(type(told), tuple)
                one, other = told
                for tree in told:
                    go_down(self, grammar.rules, grammar.start, tree)
                    self.assertEqual(row_of(tree), row)
                self.assertNotEqual(written(one), written(other))
        self.assertGreater(min(answers.values()), 60)

    def test_nothing_missing_that_small_trees_have(self):
        found = 0
        for grammar in GRAMMARS:
            seen = {}
            for tree in small_trees(grammar.rules, 7, 40)[grammar.start]:
                seen.setdefault(tuple(row_of(tree)), set()).add(written(tree))
            for row in seen:
                told = two_trees(grammar, list(row))
                if len(seen[row]) > 1:
                    found += 1
                    self.assertIsNotNone(told)
        self.assertGreater(found, 40)


class TestGoesOn(Searching):

    def test_the_shortest_rows(self):
        answers = {"none": 0, "some": 0, "far": 0}
        for grammar, words, row in self.asked:
            told = goes_on(grammar, row)
            known = [len(word) - len(row) for word in words[grammar.start] if word[:len(row)] == tuple(row)]
            if told is None:
                self.assertEqual(known, [])
                answers["none"] += 1
                continue
            self.assertIs(type(told), list)
            whole = row + told
            self.assertIn((grammar.start, 0, len(whole)), make_closed_triples(grammar.rules, whole))
            if len(whole) <= LONGEST:
                self.assertEqual(len(told), min(known))
                answers["some"] += 1
            else:
                self.assertEqual(known, [])
                answers["far"] += 1
        self.assertGreater(answers["none"], 300)
        self.assertGreater(answers["some"], 300)
        self.assertGreater(answers["far"], 10)

    def test_by_one_sign_more_at_a_time(self):
        """What goes on by so many signs goes on, behind the first one of them, by one less."""
        for grammar, words, row in self.asked:
            told = goes_on(grammar, row)
            while told and len(row) < 10:
                row = row + told[:1]
                rest = goes_on(grammar, row)
                self.assertEqual(len(rest), len(told) - 1)
                told = rest

    def test_by_one_sign_less(self):
        """What goes on goes on without its last sign, too, by one sign more at most."""
        for grammar, words, row in self.asked:
            told = goes_on(grammar, row)
            if told is not None and row:
                self.assertLessEqual(len(goes_on(grammar, row[:-1])), len(told) + 1)


class TestTheGreatest(unittest.TestCase):
    """Rows of ten signs, of all sorts of grammars."""

    def test_ten_signs(self):
        chance = random.Random(10)
        lengths = []
        for grammar in GRAMMARS[:60]:
            words = least_by_word(grammar.rules, 3)
            pool = sorted(word for head in words for word in words[head] if word) or [("a",)]
            row = []
            while len(row) < 10:
                row = (row + list(chance.choice(pool)))[:10]
            chart = Chart(grammar, row)
            self.assertEqual(set(chart.tells()), make_closed_triples(grammar.rules, row))
            for head, i, j in chart.tells():
                tree = chart.grown(head, i, j)
                self.assertTrue(is_great(head))
                self.assertEqual(row_of(tree), row[i:j])
                if j - i > 7:
                    go_down(self, grammar.rules, head, tree)
                    lengths.append(j - i)
            count = tree_counts(grammar.rules, row).get((grammar.start, 0, 10), 0)
            self.assertIs(two_trees(grammar, row) is not None, count == 2)
        self.assertGreater(len(lengths), 30)


if __name__ == "__main__":
    unittest.main()
