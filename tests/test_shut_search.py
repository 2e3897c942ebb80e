"""[48]: sets of many grammars, by a looking through of the tests' own, and what is let by, by a search over trees."""

import random
import unittest

from rulestable.books import empty_heads, first_signs, follow_signs, least_sizes
from rulestable.shut import are_least, is_barren_set, is_shut_empty, is_shut_firsts, is_shut_follows
from tests.growing import behind_path, count_of, nodes_with_paths, row_of, small_trees, some_grammars
from tests.looking import (heads_of, make_shut_empty, make_shut_firsts, make_shut_follows, shut_barren, shut_empty,
                           shut_firsts, shut_follows, shut_numbers, signs_of)

GRAMMARS = some_grammars(250, seed=48)


def barren_heads(grammar):
    sizes = least_sizes(grammar)
    return [head for head in grammar.heads() if head not in sizes]


def less_and_more(told, others):
    """The list with each one thing less, and with each of the others more."""
    for place in range(len(told)):
        yield told[:place] + told[place + 1:]
    for other in others:
        if other not in told:
            yield told + [other]


def dicts_less_and_more(told, keys, others):
    """The dict with each one list less, with one list more, and with one thing less and more in one list."""
    for key in keys:
        if key not in told:
            yield dict(told, **{key: []})
            continue
        yield {other: told[other] for other in told if other != key}
        for changed in less_and_more(told[key], others):
            yield dict(told, **{key: changed})


class TestTheTrueOnes(unittest.TestCase):
    """What the books tell is let by, and of the least sets nothing may be missing."""

    def test_barren_heads(self):
        for grammar in GRAMMARS:
            barren = barren_heads(grammar)
            self.assertIs(is_barren_set(grammar, barren), True)
            for head in least_sizes(grammar):
                self.assertIs(is_barren_set(grammar, barren + [head]), False)

    def test_heads_that_may_be_empty(self):
        for grammar in GRAMMARS:
            empty = empty_heads(grammar)
            self.assertIs(is_shut_empty(grammar, empty), True)
            for head in empty:
                self.assertIs(is_shut_empty(grammar, [other for other in empty if other != head]), False)

    def test_least_sizes(self):
        for grammar in GRAMMARS:
            sizes = least_sizes(grammar)
            self.assertIs(are_least(grammar, sizes), True)
            for head in sizes:
                self.assertIs(are_least(grammar, dict(sizes, **{head: sizes[head] + 1})), False)
                self.assertIs(are_least(grammar, {other: sizes[other] for other in sizes if other != head}), False)

    def test_firsts(self):
        for grammar in GRAMMARS:
            barren, empty, starts = barren_heads(grammar), empty_heads(grammar), first_signs(grammar)
            self.assertIs(is_shut_firsts(grammar, barren, empty, starts), True)
            for symbol in starts:
                for sign in starts[symbol]:
                    less = dict(starts, **{symbol: [other for other in starts[symbol] if other != sign]})
                    self.assertIs(is_shut_firsts(grammar, barren, empty, less), False)

    def test_follows(self):
        for grammar in GRAMMARS:
            barren, empty, starts = barren_heads(grammar), empty_heads(grammar), first_signs(grammar)
            ends = follow_signs(grammar)
            self.assertIs(is_shut_follows(grammar, barren, empty, starts, ends), True)
            for head in ends:
                less = {other: ends[other] for other in ends if other != head}
                self.assertIs(is_shut_follows(grammar, barren, empty, starts, less), False)
                for sign in ends[head]:
                    less = dict(ends, **{head: [other for other in ends[head] if other != sign]})
                    self.assertIs(is_shut_follows(grammar, barren, empty, starts, less), False)


class TestOneLessAndOneMore(unittest.TestCase):
    """Each answer is that of the tests' own looking through."""

    def setUp(self):
        self.answers = {True: 0, False: 0}

    def same(self, told, wanted):
        self.assertIs(told, wanted)
        self.answers[wanted] += 1

    def tearDown(self):
        self.assertGreater(min(self.answers.values()), 50)

    def test_barren_sets(self):
        for grammar in GRAMMARS:
            for heads in less_and_more(barren_heads(grammar), heads_of(grammar.rules) + ["Z", "a"]):
                self.same(is_barren_set(grammar, heads), shut_barren(grammar.rules, heads))
            for heads in less_and_more([], heads_of(grammar.rules)):
                self.same(is_barren_set(grammar, heads), shut_barren(grammar.rules, heads))

    def test_heads_shut_for_emptiness(self):
        for grammar in GRAMMARS:
            for heads in less_and_more(empty_heads(grammar), heads_of(grammar.rules) + ["Z", "a"]):
                self.same(is_shut_empty(grammar, heads), shut_empty(grammar.rules, heads))

    def test_least_numbers(self):
        for grammar in GRAMMARS:
            sizes = least_sizes(grammar)
            for head in heads_of(grammar.rules) + ["Z", "a"]:
                for number in (-20, -1, 0, 1, 2, 3, 4, 5, 9, sizes.get(head, 0) - 1, sizes.get(head, 0) + 1):
                    numbers = dict(sizes, **{head: number})
                    self.same(are_least(grammar, numbers), shut_numbers(grammar.rules, numbers))

    def test_firsts(self):
        for grammar in GRAMMARS:
            barren, empty, starts = barren_heads(grammar), empty_heads(grammar), first_signs(grammar)
            symbols = heads_of(grammar.rules) + signs_of(grammar.rules)
            for changed in dicts_less_and_more(starts, symbols, signs_of(grammar.rules) + ["zz"]):
                self.same(is_shut_firsts(grammar, barren, empty, changed),
                          shut_firsts(grammar.rules, barren, empty, changed))

    def test_firsts_with_other_sets_beside(self):
        for grammar in GRAMMARS:
            barren, empty, starts = barren_heads(grammar), empty_heads(grammar), first_signs(grammar)
            for others in less_and_more(barren, heads_of(grammar.rules)):
                self.same(is_shut_firsts(grammar, others, empty, starts),
                          shut_firsts(grammar.rules, others, empty, starts))
            for others in less_and_more(empty, heads_of(grammar.rules)):
                self.same(is_shut_firsts(grammar, barren, others, starts),
                          shut_firsts(grammar.rules, barren, others, starts))

    def test_follows(self):
        for grammar in GRAMMARS[:120]:
            barren, empty, starts = barren_heads(grammar), empty_heads(grammar), first_signs(grammar)
            others = signs_of(grammar.rules) + ["$", "zz"]
            for changed in dicts_less_and_more(follow_signs(grammar), heads_of(grammar.rules), others):
                self.same(is_shut_follows(grammar, barren, empty, starts, changed),
                          shut_follows(grammar.rules, barren, empty, starts, changed))

    def test_follows_with_others_beside(self):
        for grammar in GRAMMARS[:120]:
            barren, empty, starts = barren_heads(grammar), empty_heads(grammar), first_signs(grammar)
            ends = follow_signs(grammar)
            beside = [(others, empty, starts) for others in less_and_more(barren, heads_of(grammar.rules))]
            beside += [(barren, others, starts) for others in less_and_more(empty, heads_of(grammar.rules))]
            symbols = heads_of(grammar.rules) + signs_of(grammar.rules)
            beside += [(barren, empty, others)
                       for others in dicts_less_and_more(starts, symbols, signs_of(grammar.rules))]
            for told in beside:
                self.same(is_shut_follows(grammar, *told, ends), shut_follows(grammar.rules, *told, ends))


class TestWhatIsLetByIsRight(unittest.TestCase):
    """Sets of all sorts are made shut, let by, and looked through by a search over small trees."""

    def setUp(self):
        self.chance = random.Random(480)
        self.found = [(grammar, small_trees(grammar.rules, 7, 25)) for grammar in GRAMMARS]

    def some(self, things):
        return [thing for thing in things if self.chance.random() < 0.3]

    def test_any_heads_as_a_barren_set(self):
        let_by = 0
        for grammar, trees in self.found:
            for turn in range(6):
                heads = self.some(grammar.heads())
                if is_barren_set(grammar, heads):
                    let_by += len(heads)
                    self.assertEqual([tree for head in heads for tree in trees[head]], [])
        self.assertGreater(let_by, 50)

    def test_any_heads_as_those_that_may_be_empty(self):
        for grammar, trees in self.found:
            heads = make_shut_empty(grammar.rules, self.some(grammar.heads()))
            self.assertIs(is_shut_empty(grammar, heads), True)
            for head in trees:
                if not all(row_of(tree) for tree in trees[head]):
                    self.assertIn(head, heads)

    def test_any_numbers(self):
        let_by = 0
        for grammar, trees in self.found:
            for turn in range(6):
                numbers = {head: self.chance.randint(-1, 4) for head in grammar.heads()}
                if are_least(grammar, numbers):
                    let_by += 1
                    for head in trees:
                        self.assertLessEqual(numbers[head], min(map(count_of, trees[head]), default=4))
        self.assertGreater(let_by, 50)

    def barren_beside(self, grammar):
        """The true barren set, or a part of it that is one."""
        less = self.some(barren_heads(grammar))
        return less if shut_barren(grammar.rules, less) else barren_heads(grammar)

    def test_any_firsts_and_follows(self):
        for grammar, trees in self.found:
            rules = grammar.rules
            barren = self.barren_beside(grammar)
            empty = make_shut_empty(rules, self.some(self.some(grammar.heads())))
            more = {symbol: self.some(grammar.signs()) for symbol in self.some(grammar.heads() + grammar.signs())}
            starts = make_shut_firsts(rules, barren, empty, more)
            self.assertIs(is_shut_firsts(grammar, barren, empty, starts), True)
            more = {head: self.some(grammar.signs()) for head in self.some(grammar.heads())}
            ends = make_shut_follows(rules, barren, empty, starts, more)
            self.assertIs(is_shut_follows(grammar, barren, empty, starts, ends), True)
            for head in trees:
                for tree in trees[head]:
                    self.assertLessEqual(set(row_of(tree)[:1]), set(starts[head]))
            for tree in trees[grammar.start]:
                for path, node in nodes_with_paths(tree):
                    self.assertIn(behind_path(tree, path), ends[rules[node.number][0]])

    def test_least_ones_by_the_tests_own_hand(self):
        """Where nothing is put in beside what must come, just the lists of the books come."""
        for grammar in GRAMMARS:
            barren, empty = barren_heads(grammar), make_shut_empty(grammar.rules, [])
            self.assertEqual(empty, empty_heads(grammar))
            starts = make_shut_firsts(grammar.rules, barren, empty, {})
            self.assertEqual(starts, first_signs(grammar))
            self.assertEqual(make_shut_follows(grammar.rules, barren, empty, starts, {}), follow_signs(grammar))


if __name__ == "__main__":
    unittest.main()
