"""[7]: the eight promises over the whole program, its parts beside one another and beside all trees of a row."""

import itertools
import random
import unittest

from rulestable.anew import Anew
from rulestable.books import (empties, empty_heads, first_signs, firsts, follow_signs, follows, fruitful, least_sizes, live,
                              reached)
from rulestable.chart import Chart, goes_on, is_closed_chart, tree_for, two_trees
from rulestable.conflicts import conflict_paper, is_conflict
from rulestable.costs import is_below, price_of
from rulestable.errors import TableError
from rulestable.grammartext import read_grammar, show_grammar
from rulestable.items import is_valid
from rulestable.laying import Laid
from rulestable.mending import mend
from rulestable.ownbook import own_table, read_by_table
from rulestable.ranked import climbed, keeps
from rulestable.reader import Reading, takable
from rulestable.shut import are_least, is_barren_set, is_shut_empty, is_shut_firsts, is_shut_follows
from rulestable.states import States, paper_for
from rulestable.tables import Table
from rulestable.trees import alike, is_tree, steps_of, tree_by
from rulestable.treetext import read_tree, show_tree
from tests.climbing import near_rows, operator_grammars, own_keeps, own_trees
from tests.doing import leaves_left_of
from tests.growing import behind_path, go_down, part_at, row_of, written
from tests.looking import is_own_paper, least_by_word, signs_of, tree_counts
from tests.paying import prices_by
from tests.reading import OwnReading, decided_tables, own_looked, plain_tables, rows_for, told_by
from tests.texts import clean_grammars, small_grammars
from tests.writing import grammar_told, some_texts, spoilt_texts


class TestBooks(unittest.TestCase):
    """What may be empty, come first, come behind."""

    def test_told_with_a_tree_or_shut_out(self):
        for grammar in small_grammars(300, seed=7):
            rules, start = grammar.rules, grammar.start
            barren = [head for head in grammar.heads() if head not in fruitful(grammar)]
            empty, starts, ends = empty_heads(grammar), first_signs(grammar), follow_signs(grammar)
            self.assertTrue(is_barren_set(grammar, barren))
            self.assertTrue(is_shut_empty(grammar, empty))
            self.assertTrue(are_least(grammar, least_sizes(grammar)))
            self.assertTrue(is_shut_firsts(grammar, barren, empty, starts))
            self.assertTrue(is_shut_follows(grammar, barren, empty, starts, ends))
            for head, tree in fruitful(grammar).items():
                go_down(self, rules, head, tree)
            self.assertEqual(sorted(empties(grammar)), empty)
            for head, tree in empties(grammar).items():
                go_down(self, rules, head, tree)
                self.assertEqual(row_of(tree), [])
            for symbol, trees in firsts(grammar).items():
                self.assertEqual(sorted(trees), starts[symbol])
                for sign, tree in trees.items():
                    go_down(self, rules, symbol, tree)
                    self.assertEqual(row_of(tree)[0], sign)
            for head, papers in follows(grammar).items():
                self.assertEqual(sorted(papers), ends[head])
                for sign, (tree, path) in papers.items():
                    go_down(self, rules, start, tree)
                    self.assertEqual(rules[part_at(tree, path).number][0], head)
                    self.assertEqual(behind_path(tree, path), sign)
            self.assertEqual({rules[number][0] for number in live(grammar)}, set(reached(grammar)))


class TestPapers(unittest.TestCase):
    """The items of each state, and two trees where a table would have to choose."""

    def test_items_and_conflicts(self):
        conflicts = 0
        for grammar in clean_grammars(150, seed=8):
            rules, states = grammar.rules, States(grammar)
            for state in range(states.many()):
                begins = set()
                for item in states.items(state):
                    tree, path = paper_for(states, state, item)
                    begins.add(tuple(self.begin_of(tree, path, item[1])))
                    self.assertTrue(is_own_paper(rules, states.way(state), item, tree, path))
                    self.assertTrue(is_valid(grammar, states.way(state), item, tree, path))
                self.assertEqual(len(begins), 1)
            for conflict in Table(states, False).conflicts():
                state, ahead, entries = conflict
                way, row, grounds = conflict_paper(states, conflict)
                self.assertTrue(is_conflict(grammar, ahead, entries, (way, row, grounds)))
                begins = {tuple(row_of(tree)[:len(row)]) for tree, path, dot in grounds}
                self.assertEqual(begins, {tuple(row)})
                nexts = {(row_of(tree) + ["$"])[len(row)] for tree, path, dot in grounds}
                self.assertEqual(nexts, {ahead})
                self.assertGreater(len({(written(tree), str(path)) for tree, path, dot in grounds}), 1)
                conflicts += 1
        self.assertGreater(conflicts, 300)

    def begin_of(self, tree, path, dot):
        """The row that stands in a tree ahead of a dot, the start's own one where there is no path."""
        if path is None:
            return row_of(tree) if dot else []
        return leaves_left_of(tree, path, dot)

    def test_two_trees_of_a_row_make_a_conflict(self):
        for grammar in clean_grammars(150, seed=9):
            if not Table(States(grammar)).conflicts():
                for row in rows_for(grammar, random.Random(9))[:40]:
                    self.assertIsNone(two_trees(grammar, row[:10]))


class TestReadings(unittest.TestCase):
    """Rows read where no choice is open or was decided, beside all trees of the row."""

    def read_or_refused(self, table, row):
        grammar, reading = table.grammar, Reading(table, row)
        count = tree_counts(grammar.rules, row).get((grammar.start, 0, len(row)), 0)
        self.assertLess(count, 2)
        self.assertEqual(reading.word(), "read" if count else "refused")
        self.assertTrue(is_closed_chart(grammar, row, Chart(grammar, row).tells()))
        self.assertIsNone(two_trees(grammar, row))
        if count:
            go_down(self, grammar.rules, grammar.start, reading.made())
            self.assertEqual(row_of(reading.made()), row)
            self.assertTrue(alike(reading.made(), tree_for(grammar, row)))
            self.assertTrue(alike(tree_by(grammar, reading.steps()), reading.made()))
            self.assertEqual(steps_of(reading.made()), reading.steps())
            self.assertTrue(alike(read_tree(show_tree(reading.made())), reading.made()))
            self.assertEqual(goes_on(grammar, row), [])
        else:
            self.assertIsNone(tree_for(grammar, row))
            self.refused_at_the_first_sign(table, row, reading)
        return reading.word()

    def refused_at_the_first_sign(self, table, row, reading):
        grammar, place = table.grammar, reading.where()
        self.assertIsNotNone(goes_on(grammar, row[:place]))
        if place < len(row):
            self.assertIsNone(goes_on(grammar, row[:place + 1]))
        could = [sign for sign in grammar.signs() if goes_on(grammar, row[:place] + [sign]) is not None]
        could += ["$"] if tree_for(grammar, row[:place]) else []
        self.assertEqual(reading.expected(), sorted(could))
        for sign in reading.expected():
            if sign != "$":
                whole = row[:place] + [sign] + goes_on(grammar, row[:place] + [sign])
                if len(whole) <= 40:
                    self.assertEqual(Reading(table, whole).word(), "read")

    def test_beside_all_trees(self):
        chance, words = random.Random(10), []
        for table in plain_tables(400, seed=10):
            for row in rows_for(table.grammar, chance)[:30]:
                words.append(self.read_or_refused(table, row[:9]))
        self.assertGreater(min(words.count("read"), words.count("refused")), 150)

    def test_all_short_rows_that_are_let_by(self):
        for table in plain_tables(100, seed=11):
            words = least_by_word(table.grammar.rules, 4)[table.grammar.start]
            for length in range(5 if len(signs_of(table.grammar.rules)) < 4 else 4):
                for row in itertools.product(signs_of(table.grammar.rules), repeat=length):
                    self.assertEqual(Reading(table, list(row)).word(), "read" if row in words else "refused")


class TestRanks(unittest.TestCase):
    """Of rows with signs between, the tree that is told is the only one that keeps the ranks."""

    def test_beside_all_trees(self):
        chance, words = random.Random(12), []
        for grammar in operator_grammars(60, seed=12):
            table = Table(States(grammar))
            self.assertEqual(table.open_ones(), [])
            laid = Laid(table)
            for row in near_rows(grammar, chance, 9):
                kept = [tree for tree in own_trees(grammar.rules, row) if own_keeps(grammar.rules, grammar.ranks, tree)]
                self.assertLess(len(kept), 2)
                for told in (table, laid):
                    reading = Reading(told, row)
                    self.assertEqual(reading.word(), "read" if kept else "refused")
                    words.append(reading.word())
                    self.assertEqual([written(reading.made())] if kept else [], kept)
                tree = climbed(grammar, row)
                self.assertEqual([written(tree)] if tree else [], kept)
                self.assertTrue(tree is None or keeps(grammar, tree))
        self.assertGreater(min(words.count("read"), words.count("refused")), 60)

    def test_decided_rows_have_one_of_their_trees(self):
        chance = random.Random(13)
        for table in decided_tables(150, seed=13):
            for row in rows_for(table.grammar, chance)[:25]:
                tree = Reading(table, row).made()
                if tree is not None:
                    self.assertTrue(is_tree(table.grammar, table.grammar.start, tree))
                    self.assertEqual(row_of(tree), row)


class TestLaid(unittest.TestCase):
    """By a table laid together the same rows are read, with the same trees, and refused at the same sign."""

    def test_beside_the_table_kept_apart(self):
        chance, fewer = random.Random(14), 0
        for table in decided_tables(200, seed=14):
            laid = Laid(table)
            fewer += laid.many() < table.many()
            for row in rows_for(table.grammar, chance)[:40]:
                one, other = Reading(table, row), Reading(laid, row)
                self.assertEqual((one.word(), one.where(), one.expected()), (other.word(), other.where(), other.expected()))
                self.assertEqual(told_by(one)[2], told_by(other)[2])
                for pile, groups in zip(one.stacks(), other.stacks(), strict=True):
                    self.assertEqual(takable(table, pile), takable(laid, groups))
        self.assertGreater(fewer, 20)


class TestAnew(unittest.TestCase):
    """Reading anew tells what reading afresh tells, and looks no farther than it must."""

    def test_from_row_to_row(self):
        chance = random.Random(15)
        for table in decided_tables(60, seed=15):
            rows = rows_for(table.grammar, chance)
            for told in (table, Laid(table)):
                kept = Anew(told, rows[0])
                for row in rows[1:15]:
                    before = kept.signs()
                    same = len([place for place in range(min(len(before), len(row))) if before[:place + 1] == row[:place + 1]])
                    place = chance.randint(0, same)
                    kept.change(place, len(before) - place, row[place:])
                    self.assertEqual(kept.signs(), row)
                    self.assertEqual(told_by(kept), told_by(Reading(told, row)))
                    old, new = (OwnReading(table.grammar.rules, told, signs) for signs in (before, row))
                    wanted = own_looked(old, new, row, place, len(before) - place, row[place:])
                    self.assertEqual(kept.looked(), wanted)


class TestMends(unittest.TestCase):
    """Rows read, refused, mended, and read again, kept apart and laid together."""

    def mended(self, table, row, chance):
        grammar, laid = table.grammar, Laid(table)
        prices = prices_by(grammar.rules, row, chance)
        told = mend(grammar, row, prices)
        let_by = tree_for(grammar, row) is not None
        self.assertEqual(told.price() == 0, let_by)
        self.assertEqual(Reading(table, row).word(), "read" if let_by else "refused")
        self.assertTrue(is_below(grammar, row, prices, told.costs()))
        self.assertIn((grammar.start, 0, len(row), told.price()), told.costs())
        self.assertEqual(price_of(grammar, row, prices, told.deeds(), told.answer()), told.price())
        for kept in (table, laid):
            self.assertTrue(alike(Reading(kept, told.mended()).made(), told.answer()))
            self.by_deeds(kept, row, told)
        again = mend(grammar, told.mended()[:10], prices) if len(told.mended()) <= 10 else None
        self.assertTrue(again is None or (again.price() == 0 and again.mended() == told.mended()))
        return let_by

    def by_deeds(self, table, row, told):
        """The row changed deed by deed, and read anew behind each, is the mended one."""
        kept, place = Anew(table, row), 0
        for word, sign in told.deeds():
            if word == "out":
                self.assertEqual(kept.signs()[place], sign)
                kept.change(place, 1, [])
            else:
                if word == "put":
                    kept.change(place, 0, [sign])
                self.assertEqual(kept.signs()[place], sign)
                place += 1
        self.assertEqual(kept.signs(), told.mended())
        self.assertEqual(kept.word(), "read")
        self.assertTrue(alike(kept.made(), told.answer()))

    def test_of_tables_without_a_conflict(self):
        chance, counts = random.Random(16), {True: 0, False: 0}
        for table in plain_tables(400, seed=16):
            rows = rows_for(table.grammar, chance)
            for row in rows[:4] + chance.sample(rows, 4):
                counts[self.mended(table, row[:10], chance)] += 1
        self.assertGreater(min(counts.values()), 60, counts)

    def test_of_any_grammar(self):
        chance = random.Random(17)
        for grammar in small_grammars(200, seed=17):
            if grammar.start in least_sizes(grammar):
                row = [chance.choice(signs_of(grammar.rules) + ["zz"]) for turn in range(chance.randint(0, 6))]
                told = mend(grammar, row, prices_by(grammar.rules, row, chance))
                self.assertEqual(told.price() == 0, tree_for(grammar, row) is not None)
                if len(told.mended()) <= 10:
                    self.assertTrue(Chart(grammar, told.mended()).has(grammar.start, 0, len(told.mended())))


class TestTexts(unittest.TestCase):
    """The text of a grammar is read by a table of this package as by the plain reader."""

    def test_alike(self):
        chance, table = random.Random(18), own_table()
        for told in (table, Laid(table)):
            for text in some_texts(40, seed=18):
                shown = show_grammar(read_by_table(told, text))
                self.assertEqual(shown, show_grammar(read_grammar(text)))
                self.assertEqual(show_grammar(read_by_table(told, shown)), shown)
                for spoilt in spoilt_texts(text, chance.randint(0, len(text))):
                    self.assertEqual(grammar_told(read_by_table, told, spoilt), grammar_told(read_grammar, spoilt))

    def test_refusals_stand_straight_under_one_class(self):
        table = own_table()
        for text in some_texts(20, seed=19):
            for spoilt in spoilt_texts(text, len(text) // 2):
                found = grammar_told(read_by_table, table, spoilt)
                if isinstance(found[0], type):
                    self.assertEqual(found[0].__bases__, (TableError,))


if __name__ == "__main__":
    unittest.main()
