"""[112], [113]: many changes of many rows, beside readings afresh and the test's own looking for the same stack."""

import random
import unittest

from rulestable.anew import Anew
from rulestable.laying import Laid
from rulestable.reader import Reading
from tests.growing import grown_tree, row_of, with_other_part
from tests.looking import signs_of
from tests.reading import OwnReading, decided_tables, own_looked, plain_tables, rows_for, told_by


def change_by(chance, length, signs):
    """A place, how many signs are taken out, and what is put in."""
    place = chance.choice((0, length, chance.randint(0, length), chance.randint(0, length)))
    out = min(chance.choice((0, 0, 1, 2, length - place)), length - place)
    put = [chance.choice(signs) for turn in range(chance.choice((0, 0, 1, 1, 2, 3)))]
    return place, out, put[:40 - length + out]


def some_changes(rules, chance, tree, turns):
    """Changes of a tree's yield: parts of the tree put for others, and, now and then, any changes, and all undone."""
    signs = signs_of(rules) * 6 + ["zz"]
    row, undo = row_of(tree), []
    for turn in range(turns):
        place, out, put = change_by(chance, len(row), signs)
        what = chance.random()
        if undo and what < 0.5:
            place, out, put = undo.pop()
        elif not undo and what < 0.7:
            other, place, out, put = with_other_part(rules, tree, chance.randint(1, 6), chance)
            if len(row) - out + len(put) > 40:
                continue
            tree = other
        else:
            undo.append((place, len(put), row[place:place + out]))
        row = row[:place] + put + row[place + out:]
        yield place, out, put


class TestChanges(unittest.TestCase):

    def changed_often(self, table, chance, turns, counts):
        rules = table.grammar.rules
        tree = grown_tree(rules, table.grammar.start, 7, chance)
        while len(row_of(tree)) > 40:
            tree = grown_tree(rules, table.grammar.start, 5, chance)
        kept = Anew(table, row_of(tree))
        row = kept.signs()
        for place, out, put in some_changes(rules, chance, tree, turns):
            old = OwnReading(rules, table, row)
            row = row[:place] + put + row[place + out:]
            new = OwnReading(rules, table, row)
            kept.change(place, out, put)
            self.assertEqual(kept.signs(), row)
            self.assertEqual(told_by(kept), new.all_told())
            self.assertEqual(told_by(kept), told_by(Reading(table, row)))
            looked = own_looked(old, new, row, place, out, put)
            self.assertEqual(kept.looked(), looked)
            self.count(counts, old, new, looked, place + len(put), len(row))

    def count(self, counts, old, new, looked, behind, length):
        end = length + 1 if new.where is None else new.where + 1
        counts["read"] += new.where is None
        counts["joined"] += looked[0] < behind == looked[1] < end
        counts["joined late"] += behind < looked[1] < end
        counts["joined at the end"] += looked[0] < looked[1] == length < end
        counts["to the end"] += looked[1] == end
        counts["nothing"] += looked[1] == looked[0]
        counts["refused ahead"] += old.where is not None and old.where < looked[0]
        counts["still refused"] += old.where is not None and looked[0] < looked[1] <= (new.where or 0)
        counts["no more refused"] += old.where is not None and new.where is None

    def test_many_changes(self):
        chance = random.Random(112)
        counts = dict.fromkeys(("read", "joined", "joined late", "joined at the end", "to the end", "nothing",
                                "refused ahead", "still refused", "no more refused"), 0)
        for table in decided_tables(300, seed=112) + plain_tables(100, seed=112):
            for told in (table, Laid(table)):
                self.changed_often(told, chance, 30, counts)
        self.assertGreater(min(counts.values()), 60, counts)

    def test_the_first_row(self):
        chance = random.Random(113)
        for table in decided_tables(100, seed=113):
            for told in (table, Laid(table)):
                for row in rows_for(table.grammar, chance)[:40]:
                    kept, own = Anew(told, row), OwnReading(table.grammar.rules, told, row)
                    self.assertEqual(kept.looked(), (0, len(row) + 1 if own.where is None else own.where + 1))
                    self.assertEqual(told_by(kept), own.all_told())
                    self.assertEqual(kept.signs(), row)

    def test_each_change_of_short_rows(self):
        for table in plain_tables(0, seed=0):
            rules = table.grammar.rules
            chance = random.Random(114)
            rows = rows_for(table.grammar, chance)[:6]
            for row in rows:
                for place in range(len(row) + 1):
                    for out in range(len(row) + 1 - place):
                        for put in ([], [signs_of(rules)[0]], signs_of(rules)[-1:] * 2):
                            kept = Anew(table, row)
                            kept.change(place, out, put)
                            signs = row[:place] + put + row[place + out:]
                            old, new = OwnReading(rules, table, row), OwnReading(rules, table, signs)
                            self.assertEqual(kept.looked(), own_looked(old, new, signs, place, out, put))
                            self.assertEqual(told_by(kept), new.all_told())


if __name__ == "__main__":
    unittest.main()
