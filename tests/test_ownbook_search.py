"""[134], [135]: many texts, whole and spoilt at one place, read by the table, laid together, and by the plain reader."""

import itertools
import random
import unittest

from rulestable.errors import Doubled, NoHead, NoRanks, NoRule, NoText, TooMany
from rulestable.grammar import Grammar
from rulestable.grammartext import read_grammar
from rulestable.laying import Laid
from rulestable.ownbook import own_table, read_by_table
from tests.texts import EMPTY, FORTY, ONE_MORE, SUMS, TERMS, THREE_HUNDRED
from tests.writing import by_patterns, grammar_told, some_texts, spoilt_texts

# Near to all that a grammar is refused with, so that a spoilt place may be one too many.
FULL = ("\n".join(f"left {sign}" for sign in "abcdef") + "\nE : a | b",
        "none a b c d e f g h i j\nE : a b c d | e f g h | i j | ~",
        "\n".join(f"{head} : a b c d" for head in "ABCDEFGH"),
        "left + -\nright ^\nE : E + E | E - E | E ^ E | n\nEmpty : ~",
        "\n".join(f"E : {one} {other}" for one in "abcd" for other in "vwxyz"))


class TestAlike(unittest.TestCase):

    @classmethod
    def setUpClass(cls):
        cls.table = own_table()
        cls.laid = Laid(cls.table)

    def alike(self, text):
        """Told alike or refused alike by both tables, the plain reader and the test's own; tell how."""
        wanted = grammar_told(read_grammar, text)
        self.assertEqual(grammar_told(read_by_table, self.table, text), wanted, text)
        self.assertEqual(grammar_told(read_by_table, self.laid, text), wanted, text)
        found = by_patterns(text)
        if isinstance(found, int):
            self.assertEqual(wanted, (NoText, {"line": found}), text)
        else:
            self.assertEqual(wanted, grammar_told(Grammar, *found), text)
        return wanted[0] if isinstance(wanted[0], type) else "told"

    def test_whole_texts(self):
        for text in some_texts(400, seed=135) + [EMPTY, FORTY, ONE_MORE, SUMS, TERMS, THREE_HUNDRED]:
            self.assertEqual(self.alike(text), "told")

    def test_spoilt_texts(self):
        chance, counts = random.Random(135), {}
        for text in some_texts(60, seed=136) + [SUMS, TERMS] + list(FULL) * 3:
            for place in chance.sample(range(len(text)), min(len(text), 12)):
                for spoilt in spoilt_texts(text, place):
                    kind = self.alike(spoilt)
                    counts[kind] = counts.get(kind, 0) + 1
        for kind in ("told", NoText, NoRule, Doubled, NoHead, TooMany, NoRanks):
            self.assertGreater(counts.get(kind, 0), 10, counts)

    def test_each_place_of_one_text(self):
        for text in ("left +\nE : E + a | ~\nE : b", "none a b"):
            for place in range(len(text) + 1):
                for spoilt in spoilt_texts(text, place):
                    self.alike(spoilt)

    def test_rows_one_behind_the_other(self):
        rows = ["E : a", "E : ~ | b", "F : E", "left +", "right a b", "none +", "", "E :", "left", "E : E F"]
        for length in range(1, 4):
            for parts in itertools.product(rows, repeat=length):
                self.alike("\n".join(parts))

    def test_rows_of_words(self):
        words = ["E", "F", "a", "left", ":", "|", "~", ""]
        for length in range(1, 4):
            for parts in itertools.product(words, repeat=length):
                for begin in ("", "E : ", "left + ", "E : a\n"):
                    self.alike(begin + " ".join(parts))

    def test_texts_of_random_words(self):
        chance = random.Random(137)
        words = ["E", "F", "a", "+", "left", ":", ":", "|", "~", "", "$"]
        for turn in range(3000):
            rows = [" ".join(chance.choice(words) for place in range(chance.randint(1, 6)))
                    for row in range(chance.randint(0, 2))]
            rows = [chance.choice(("left a", "none + -", "E : a", "E : ~ | F")) for row in range(chance.randint(0, 3))] + rows
            self.alike("\n".join(rows + ["F : ~"] * chance.randint(0, 1)))


if __name__ == "__main__":
    unittest.main()
