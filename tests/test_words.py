"""[2], [11]: whole numbers, signs, heads, symbols, rows."""

import string
import unittest

from rulestable.words import is_head, is_row, is_sign, is_symbol, is_whole
from tests.things import far_numbers, no_words, other_things, truths

SMALL = string.ascii_lowercase
GREAT = string.ascii_uppercase
FIGURES = string.digits
MARKS = "+-*/()[]=<>,;.!?^&"
EVERY_MARK = [chr(code) for code in range(0x3000)] + ["\ud800", "\uff21", "\uff41", "\uff10", "\U0001d41a"]


class TestWords(unittest.TestCase):

    def says(self, answer, wanted, thing=None):
        """True and False themselves, not what is like them."""
        if answer is not wanted:
            self.fail(f"{answer!r} told in the place of {wanted} of {thing!r}")

    def says_no_to(self, things, *asked):
        for thing in things:
            for ask in asked:
                if ask(thing) is not False:
                    self.fail(f"{ask.__name__} of a thing of {type(thing)}")


class TestWhole(TestWords):

    def test_whole_numbers(self):
        for number in far_numbers() + [0, 1, 2, 20, 40]:
            self.says(is_whole(number), True)

    def test_truths_are_none(self):
        self.says_no_to(truths(), is_whole)

    def test_other_things_are_none(self):
        self.says_no_to(other_things() + no_words() + ["0", "1", "a", "E"], is_whole)


class TestSign(TestWords):

    def test_signs(self):
        for thing in ("a", "n", "+", "abcdef", "123456", "+-*/()", "[]=<>,", ";.!?^&", "a1+b2=", "left", "0"):
            self.says(is_sign(thing), True, thing)

    def test_each_character_by_itself(self):
        for mark in EVERY_MARK:
            self.says(is_sign(mark), mark in SMALL + FIGURES + MARKS, mark)

    def test_each_character_at_each_place(self):
        for mark in EVERY_MARK[:256]:
            for place in range(6):
                thing = "aaaaaa"[:place] + mark + "aaaaaa"[place + 1:]
                self.says(is_sign(thing), mark in SMALL + FIGURES + MARKS, thing)

    def test_lengths(self):
        for mark in ("a", "7", "&"):
            for length in range(10):
                self.says(is_sign(mark * length), 1 <= length <= 6, mark * length)

    def test_heads_and_the_end_mark_are_none(self):
        self.says_no_to(["E", "Empty", "A1", "$", "$$", "a$", "$a"], is_sign)

    def test_other_things_are_none(self):
        self.says_no_to(other_things() + truths() + far_numbers() + [0, 1] + no_words(), is_sign)


class TestHead(TestWords):

    def test_heads(self):
        for thing in ("E", "Empty", "A1", "Z99999", "Abcdef", "T0a1b2"):
            self.says(is_head(thing), True, thing)

    def test_each_character_by_itself(self):
        for mark in EVERY_MARK:
            self.says(is_head(mark), mark in GREAT, mark)

    def test_each_character_ahead_of_others(self):
        for mark in EVERY_MARK[:256]:
            self.says(is_head(mark + "a1"), mark in GREAT, mark)

    def test_each_character_behind_others(self):
        for mark in EVERY_MARK:
            self.says(is_head("E" + mark), mark in SMALL + FIGURES, mark)
            self.says(is_head("Eabc1" + mark), mark in SMALL + FIGURES, mark)

    def test_lengths(self):
        for length in range(1, 10):
            self.says(is_head("E" + "a" * (length - 1)), length <= 6, length)
        self.says(is_head(""), False)

    def test_signs_and_the_end_mark_are_none(self):
        self.says_no_to(["a", "abc", "+", "9", "$", "E$", "$E"], is_head)

    def test_other_things_are_none(self):
        self.says_no_to(other_things() + truths() + far_numbers() + [0, 1] + no_words(), is_head)


class TestSymbol(TestWords):

    def test_signs_and_heads(self):
        for thing in ("a", "+", "abcdef", "&&", "0", "E", "Empty", "A1", "Zzzzzz"):
            self.says(is_symbol(thing), True, thing)

    def test_what_is_neither(self):
        self.says_no_to(other_things() + truths() + far_numbers() + [0, 1] + no_words(), is_symbol)

    def test_each_character_by_itself(self):
        for mark in EVERY_MARK:
            self.says(is_symbol(mark), mark in SMALL + GREAT + FIGURES + MARKS, mark)

    def test_no_text_is_two_of_them(self):
        texts = EVERY_MARK[:256] + [one + other for one in EVERY_MARK[:256] for other in EVERY_MARK[:256]]
        for text in texts + no_words() + ["E", "Empty", "abc", "+"]:
            kinds = [is_sign(text), is_head(text), text == "$"]
            self.assertLessEqual(kinds.count(True), 1, text)
            self.says(is_symbol(text), kinds[0] or kinds[1], text)


class TestRow(TestWords):

    def test_rows(self):
        self.says(is_row([], 0), True)
        self.says(is_row(["a"], 1), True)
        self.says(is_row(["a", "+", "a", "a"], 40), True)
        self.says(is_row(["a", "a"], 2), True)

    def test_bounds(self):
        for most in (0, 1, 2, 10, 39, 40, 41, 4000):
            self.says(is_row(["a"] * most, most), True, most)
            self.says(is_row(["a"] * (most + 1), most), False, most)
            if most > 0:
                self.says(is_row(["a"] * (most - 1), most), True, most)

    def test_a_wrong_thing_at_each_place(self):
        for place in range(4):
            for thing in other_things() + truths() + far_numbers() + [0, 1] + no_words() + ["E", "Empty"]:
                row = ["a", "b", "c", "d"]
                row[place] = thing
                if is_row(row, 40) is not False:
                    self.fail(f"a row with a thing of {type(thing)}")

    def test_what_is_no_list(self):
        no_lists = [thing for thing in other_things() if not isinstance(thing, list)]
        no_lists += truths() + far_numbers() + [0, 1] + no_words()
        no_lists += ["a", "abc", ("a", "b"), {"a": "b"}, {"a"}, frozenset(["a"]), range(0), iter(["a"])]
        for most in (0, 1, 40):
            self.says_no_to(no_lists, lambda thing: is_row(thing, most))

    def test_the_list_is_as_it_was(self):
        row = ["a", "E", "b"]
        is_row(row, 40)
        self.assertEqual(row, ["a", "E", "b"])


if __name__ == "__main__":
    unittest.main()
