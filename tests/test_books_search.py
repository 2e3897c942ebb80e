"""[41], [43], [44], [45], [47]: all that the books tell of many grammars is gone through, and nothing is missing.

What is told is shown by its trees, gone down here rule by rule. That nothing is missing is shown twice: by a search
over small trees, and by sets that are shut, so that no tree, however great, leads out of them.
"""

import itertools
import unittest

from rulestable.books import (ahead_of, empties, empty_heads, first_row, first_signs, firsts, follow_signs, follows,
                              fruitful, least_sizes, live, need_clean, need_small, reached)
from rulestable.errors import Dead, TableError, Vast
from rulestable.grammar import Grammar
from tests.growing import (behind_path, count_of, go_down, is_great, nodes_with_paths, part_at, row_of, small_trees,
                           some_grammars)

GRAMMARS = some_grammars(400)


def is_vast(grammar):
    try:
        need_small(grammar)
    except Vast:
        return True
    return False


SMALL = [grammar for grammar in GRAMMARS if not is_vast(grammar)]


class TestTold(unittest.TestCase):
    """What is told has a tree that shows it."""

    def test_enough_to_look_at(self):
        self.assertGreater(len(SMALL), 350)
        self.assertTrue(any(len(least_sizes(grammar)) < len(grammar.heads()) for grammar in SMALL))
        self.assertTrue(any(grammar.start not in least_sizes(grammar) for grammar in SMALL))
        self.assertTrue(any(live(grammar) == list(range(len(grammar.rules))) for grammar in SMALL))

    def test_smallest_trees(self):
        for grammar in SMALL:
            told = fruitful(grammar)
            self.assertEqual({head: count_of(told[head]) for head in told}, least_sizes(grammar))
            for head, tree in told.items():
                go_down(self, grammar.rules, head, tree)

    def test_trees_without_leaves(self):
        for grammar in SMALL:
            told = empties(grammar)
            self.assertEqual(sorted(told), empty_heads(grammar))
            for head, tree in told.items():
                go_down(self, grammar.rules, head, tree)
                self.assertEqual(row_of(tree), [])

    def test_what_comes_first(self):
        for grammar in SMALL:
            told = firsts(grammar)
            self.assertEqual({symbol: sorted(told[symbol]) for symbol in told}, first_signs(grammar))
            self.assertEqual(sorted(told), sorted(grammar.heads() + grammar.signs()))
            for symbol in told:
                for sign, tree in told[symbol].items():
                    go_down(self, grammar.rules, symbol, tree)
                    self.assertEqual(row_of(tree)[0], sign)

    def test_what_comes_behind(self):
        for grammar in SMALL:
            told = follows(grammar)
            self.assertEqual({head: sorted(told[head]) for head in told}, follow_signs(grammar))
            self.assertEqual(sorted(told), sorted(reached(grammar)))
            for head in told:
                for ahead, (tree, path) in told[head].items():
                    go_down(self, grammar.rules, grammar.start, tree)
                    self.assertEqual(grammar.rules[part_at(tree, path).number][0], head)
                    self.assertEqual(behind_path(tree, path), ahead)

    def test_ways(self):
        for grammar in SMALL:
            for head, way in reached(grammar).items():
                now = grammar.start
                for number, place in way:
                    rule_head, body = grammar.rules[number]
                    self.assertEqual(rule_head, now)
                    self.assertTrue(all(symbol in least_sizes(grammar) for symbol in body if is_great(symbol)))
                    self.assertTrue(0 <= place < len(body))
                    now = body[place]
                self.assertEqual(now, head)
            self.assertEqual(reached(grammar).get(grammar.start, []), [])


class TestNothingMissingBySearch(unittest.TestCase):
    """A search over small trees finds nothing that isn't told."""

    def setUp(self):
        self.found = [(grammar, small_trees(grammar.rules, 7, 25)) for grammar in GRAMMARS]

    def test_sizes_and_what_comes_first(self):
        for grammar, trees in self.found:
            sizes, empty, first = least_sizes(grammar), empty_heads(grammar), first_signs(grammar)
            for head in trees:
                for tree in trees[head]:
                    self.assertLessEqual(sizes[head], count_of(tree))
                    row = row_of(tree)
                    if row:
                        self.assertIn(row[0], first[head])
                    else:
                        self.assertIn(head, empty)

    def test_smallest_trees_without_leaves(self):
        for grammar, trees in self.found:
            if not is_vast(grammar):
                told = empties(grammar)
                for head in trees:
                    sizes = [count_of(tree) for tree in trees[head] if not row_of(tree)]
                    self.assertLessEqual(count_of(told[head]) if sizes else 0, min(sizes, default=0))

    def test_what_comes_behind_and_what_is_live(self):
        for grammar, trees in self.found:
            follow, ways, alive = follow_signs(grammar), reached(grammar), live(grammar)
            for tree in trees[grammar.start]:
                for path, node in nodes_with_paths(tree):
                    head = grammar.rules[node.number][0]
                    self.assertIn(head, ways)
                    self.assertIn(node.number, alive)
                    self.assertIn(behind_path(tree, path), follow[head])


class TestNothingMissingByShutSets(unittest.TestCase):
    """What is told is shut by the rules, so that no tree leads out of it."""

    def test_barren_heads(self):
        for grammar in GRAMMARS:
            barren = [head for head in grammar.heads() if head not in least_sizes(grammar)]
            for head, body in grammar.rules:
                if head in barren:
                    self.assertTrue(any(symbol in barren for symbol in body))

    def test_heads_that_may_be_empty(self):
        for grammar in GRAMMARS:
            empty = empty_heads(grammar)
            self.assertEqual(empty, sorted(set(empty)))
            for head, body in grammar.rules:
                if all(symbol in empty for symbol in body):
                    self.assertIn(head, empty)

    def test_least_sizes(self):
        for grammar in GRAMMARS:
            self.shut_sizes(grammar, least_sizes(grammar), grammar.rules)

    def test_sizes_without_leaves(self):
        for grammar in SMALL:
            sizes = {head: count_of(tree) for head, tree in empties(grammar).items()}
            self.shut_sizes(grammar, sizes, [rule for rule in grammar.rules if all(map(is_great, rule[1]))])

    def shut_sizes(self, grammar, sizes, rules):
        for head, body in rules:
            if all(symbol in sizes or not is_great(symbol) for symbol in body):
                self.assertLessEqual(sizes[head], 1 + sum(sizes.get(symbol, 1) for symbol in body))

    def fruitful_rules(self, grammar):
        sizes = least_sizes(grammar)
        return [(number, head, body) for number, (head, body) in enumerate(grammar.rules)
                if all(symbol in sizes or not is_great(symbol) for symbol in body)]

    def test_what_comes_first(self):
        for grammar in GRAMMARS:
            first, empty = first_signs(grammar), empty_heads(grammar)
            self.assertEqual(sorted(first), sorted(grammar.heads() + grammar.signs()))
            self.assertEqual([first[sign] for sign in grammar.signs()], [[sign] for sign in grammar.signs()])
            self.assertTrue(all(told == sorted(set(told)) for told in first.values()))
            for number, head, body in self.fruitful_rules(grammar):
                for symbol in itertools.chain(itertools.takewhile(lambda part: part in empty, body),
                                              [part for part in body if part not in empty][:1]):
                    self.assertLessEqual(set(first[symbol]), set(first[head]))

    def test_reached_heads_and_live_rules(self):
        for grammar in GRAMMARS:
            ways = reached(grammar)
            self.assertEqual(grammar.start in ways, grammar.start in least_sizes(grammar))
            self.assertTrue(grammar.start in ways or not ways)
            rules = [(number, head, body) for number, head, body in self.fruitful_rules(grammar) if head in ways]
            for number, head, body in rules:
                self.assertLessEqual({symbol for symbol in body if is_great(symbol)}, set(ways))
            self.assertEqual(live(grammar), [number for number, head, body in rules])

    def test_what_comes_behind(self):
        for grammar in GRAMMARS:
            follow, first, empty = follow_signs(grammar), first_signs(grammar), empty_heads(grammar)
            self.assertEqual(sorted(follow), sorted(reached(grammar)))
            self.assertTrue(all(told == sorted(set(told)) and told for told in follow.values()))
            if follow:
                self.assertIn("$", follow[grammar.start])
            for number in live(grammar):
                head, body = grammar.rules[number]
                for place, symbol in enumerate(body):
                    rest = list(body[place + 1:])
                    if is_great(symbol):
                        while rest and rest[0] in empty:
                            self.assertLessEqual(set(first[rest.pop(0)]), set(follow[symbol]))
                        self.assertLessEqual(set(first[rest[0]] if rest else follow[head]), set(follow[symbol]))


class TestClean(unittest.TestCase):

    def test_just_the_least_rule_that_is_not_live(self):
        for grammar in GRAMMARS:
            dead = sorted(set(range(len(grammar.rules))) - set(live(grammar)))
            try:
                need_clean(grammar)
            except Dead as refusal:
                self.assertEqual(refusal.number, dead[0])
            except Vast as refusal:
                self.assertEqual(dead, [])
                self.assertIn(refusal.head, grammar.heads())
            else:
                self.assertEqual(dead, [])
                self.assertFalse(is_vast(grammar))

    def clean_ones(self):
        for grammar in GRAMMARS:
            try:
                need_clean(grammar)
            except TableError:
                continue
            yield grammar

    def test_first_rows(self):
        count = 0
        for grammar in self.clean_ones():
            first, empty = first_signs(grammar), empty_heads(grammar)
            trees = small_trees(grammar.rules, 5, 6)
            symbols = grammar.heads() + grammar.signs()
            for row in itertools.chain([()], itertools.product(symbols, repeat=1), itertools.product(symbols, repeat=2)):
                for ahead in ("$", "zz"):
                    told = first_row(grammar, list(row), ahead) if len(row) < 2 else ahead_of(first, empty, list(row), ahead)
                    self.assertEqual(told, ahead_of(first, empty, list(row), ahead))
                    self.assertEqual(told, sorted(set(told)))
                    self.assertEqual(ahead in told, all(symbol in empty for symbol in row))
                    kinds = [trees[symbol] if is_great(symbol) else [symbol] for symbol in row]
                    for chosen in itertools.product(*kinds):
                        signs = [sign for part in chosen for sign in ([part] if isinstance(part, str) else row_of(part))]
                        self.assertIn((signs + [ahead])[0], told)
                    self.shown(grammar, row, ahead, told)
                    count += 1
        self.assertGreater(count, 500)

    def shown(self, grammar, row, ahead, told):
        """Each one told, but what stands ahead, begins the yield of a symbol ahead of which all may be empty."""
        starts, bare = firsts(grammar), empties(grammar)
        for sign in told:
            places = [place for place, symbol in enumerate(row) if sign in starts[symbol]
                      and all(other in bare for other in row[:place])]
            self.assertTrue(places or sign == ahead)


class TestTheGreatest(unittest.TestCase):
    """Twenty rules, eight heads and ten signs."""

    def greatest(self):
        heads, signs = "SABCDEFG", "abcdefghij"
        rules = [(head, ()) for head in heads[3:]]
        for place, head in enumerate(heads):
            rules.append((head, (heads[(place + 1) % 8], heads[(place + 3) % 8], signs[place], heads[(place + 5) % 8])))
        for place in range(7):
            rules.append((heads[place], (signs[place + 3], heads[place + 1])))
        return Grammar(rules[5:] + rules[:5])

    def test_all_books(self):
        grammar = self.greatest()
        self.assertEqual((len(grammar.rules), len(grammar.heads()), len(grammar.signs())), (20, 8, 10))
        self.assertIsNone(need_clean(grammar))
        for head, found in firsts(grammar).items():
            for sign, tree in found.items():
                go_down(self, grammar.rules, head, tree)
                self.assertEqual(row_of(tree)[0], sign)
        papers = follows(grammar)
        self.assertEqual(sorted(papers), grammar.heads())
        for head, found in papers.items():
            for ahead, (tree, path) in found.items():
                go_down(self, grammar.rules, "S", tree)
                self.assertEqual(behind_path(tree, path), ahead)
                self.assertEqual(grammar.rules[part_at(tree, path).number][0], head)
                self.assertLess(tree.size(), 10000)


if __name__ == "__main__":
    unittest.main()
