"""[147]: what a desk refuses, in which order, and that nothing is changed by it."""

import unittest

from rulestable.desk import Desk
from rulestable.errors import (Dead, Doubled, NoHead, NoLine, NoPlace, NoPrice, NoRanks, NoRow, NoRule, NoSymbol, NoText,
                               Open, TooMany, Vast)
from tests.asking import FORMS, NO_NUMBERS, ROW, WORDS, desk_of
from tests.refusing import Refusing, outcome
from tests.texts import BARE_FORTY_ONE, DEAD, DEAD_AND_VAST, FORTY_ONE, ONE_MORE, SUMS, THREE_HUNDRED
from tests.things import all_things

LEFT = "left +\n" + SUMS
BARE = [word for word in WORDS if FORMS[word] == ""]
ROWED = [word for word in WORDS if FORMS[word].endswith(ROW)]
# A right line for each word.
RIGHT = {"grammar": "grammar E : n", "first": "first E", "behind": "behind E", "read": "read n", "quick": "quick n",
         "all": "all n", "on": "on n", "change": "change 0 0 n", "mend": "mend 1 1 n", **{word: word for word in BARE}}


def read_desk():
    """A desk of a grammar, with a row that was read and changed."""
    desk = desk_of(LEFT)
    desk.say("read n + n")
    desk.say("change 3 0 + n")
    return desk


class DeskRefusing(Refusing):

    def no_line(self, desk, line):
        self.refuses(NoLine, "line", line, desk.say, line)

    def keeps(self, kind, field, kept, desk, line):
        """Asking is refused by just this class, which keeps what is equal to this."""
        found = outcome(desk.say, line)
        self.assertIs(found[0], kind, line)
        self.assertEqual(found[1][field], kept, line)
        self.assertIs(type(found[1][field]), type(kept))


class TestNoLine(DeskRefusing):

    def test_what_is_no_text(self):
        for desk in (Desk(), read_desk()):
            for thing in all_things():
                if not isinstance(thing, str):
                    self.no_line(desk, thing)
            for thing in ([RIGHT["show"]], ("show",), {"show": 1}, b"show", None, 0, True):
                self.no_line(desk, thing)

    def test_first_words_that_are_none(self):
        for desk in (Desk(), read_desk()):
            for line in ("", " ", "  ", "hello", "Show", "SHOW", "shows", "sho", "show\t", "\tshow", " show", "  read n", "read\tn",
                         "n", "E", "grammars E : a", "$", "ok", "none", "one", "say show", "grammar\tE : a", "readn", "mend1 1"):
                self.no_line(desk, line)
            for thing in all_things():
                if isinstance(thing, str):
                    self.no_line(desk, thing)

    def test_more_words_than_told(self):
        for word in BARE:
            for behind in (" ", " n", "  ", " " + word, " E", " 0", " none"):
                self.no_line(read_desk(), word + behind)
        for word in ("first", "behind"):
            for behind in (" E ", " E E", "  E", "  ", " E  ", " E + n"):
                self.no_line(read_desk(), word + behind)

    def test_fewer_words_than_told(self):
        for line in ("grammar", "first", "behind", "change", "mend", "change 0", "mend 1", "change 0 ", "mend 1 "):
            self.no_line(read_desk(), line)

    def test_what_is_no_number(self):
        for word in ("change", "mend"):
            for number in NO_NUMBERS:
                self.no_line(read_desk(), f"{word} {number} 1 n")
                self.no_line(read_desk(), f"{word} 1 {number} n")
                self.no_line(read_desk(), f"{word} 1 {number}")
                self.no_line(read_desk(), f"{word} {number}")

    def test_blanks_among_numbers(self):
        for word in ("change", "mend"):
            for line in (" {} 0 1", "{}  0 1", "{} 0  1", "{} ", "{}  ", "{} 0", "{} 0 "):
                self.no_line(read_desk(), line.format(word))

    def test_a_desk_without_a_grammar(self):
        for word in WORDS:
            if word != "grammar":
                self.no_line(Desk(), RIGHT[word])
        for line in ("first zz", "behind +", "read S", "mend 0 0", "mend 1 1 S", "all" + " a" * 11, "change 5 5", "first "):
            self.no_line(Desk(), line)

    def test_behind_a_refused_grammar(self):
        desk = Desk()
        for text in ("", "S", "S : A", "left +"):
            self.assertNotEqual(outcome(desk.say, "grammar " + text)[0], "told")
            self.no_line(desk, "show")

    def test_ahead_of_any_row(self):
        desk = desk_of(LEFT)
        for line in ("looked", "change 0 0 n", "change 0 0", "change 9 9 S", "change 0 0 " + "n " * 50):
            self.no_line(desk, line)
        for line in ("quick n", "all n", "on n", "mend 1 1 n", "table", "laid"):
            desk.say(line)
            self.no_line(desk, "looked")
            self.no_line(desk, "change 0 0 n")
        self.keeps(NoRow, "found", ["S"], desk, "read S")
        self.no_line(desk, "looked")
        desk.say("read zz")
        self.assertEqual(desk.say("looked"), "0 1")

    def test_behind_a_new_grammar(self):
        desk = read_desk()
        desk.say("grammar S : a")
        for line in ("looked", "change 0 0 a"):
            self.no_line(desk, line)
        desk.say("read a")
        self.assertEqual(desk.say("looked"), "0 2")
        desk.say("grammar S : a")
        self.no_line(desk, "looked")


class TestNoSymbol(DeskRefusing):

    def test_first(self):
        desk = desk_of("left zz\nS : a\nB : b")
        for word in ("", "zz", "c", "C", "A", "$", "~", "|", "Sa", "aa", "none", "left", "\xe4", "first"):
            self.keeps(NoSymbol, "found", word, desk, f"first {word}")
        for word, answer in (("S", "a"), ("a", "a"), ("B", "b"), ("b", "b")):
            self.assertEqual(desk.say(f"first {word}"), answer)

    def test_behind(self):
        desk = desk_of("S : a C\nB : b C\nC : c")
        for word in ("", "B", "a", "b", "c", "A", "$", "Cc", "zz", "none"):
            self.keeps(NoSymbol, "found", word, desk, f"behind {word}")
        self.assertEqual((desk.say("behind S"), desk.say("behind C")), ("$", "$"))
        self.keeps(NoSymbol, "found", "S", desk_of("S : S a"), "behind S")

    def test_of_vast_grammars(self):
        for text in (FORTY_ONE, BARE_FORTY_ONE):
            self.keeps(NoSymbol, "found", "zz", desk_of(text), "first zz")
            self.keeps(NoSymbol, "found", "zz", desk_of(text), "behind zz")
            self.assertEqual(desk_of(text).say("behind S"), "$")


class TestAsTheStagesRefuse(DeskRefusing):

    def test_grammars(self):
        for text, kind, field, kept in (
                ("", NoText, "line", 0), ("E", NoText, "line", 0), (" E : a", NoText, "line", 0), ("E : a ", NoText, "line", 0),
                ("E  : a", NoText, "line", 0), ("E : a # ", NoText, "line", 1), ("E : a # left +", NoText, "line", 1),
                ("E : a #", NoText, "line", 0), ("E : a # # E : b", NoText, "line", 1), ("# E : a", NoText, "line", 0),
                ("E : a#E : b", NoText, "line", 0), ("left + # E : a #  # F : b", NoText, "line", 2),
                ("left +", TooMany, "found", 0), ("E : F", NoHead, "head", "F"), ("E : a | a", Doubled, "number", 1),
                ("E : a b c d e", NoRule, "found", ("E", ("a", "b", "c", "d", "e"))),
                ("left + + # E : a", NoRanks, "found", ("left", ("+", "+"))),
                (" # ".join(f"E : a{number}" for number in range(21)), TooMany, "found", 21),
                (" # ".join(f"{head} : a" for head in "ABCDEFGHI"), TooMany, "found", 9),
                ("E : a b c d | e f g h | i j k", TooMany, "found", 11),
                (" # ".join(f"left {sign}" for sign in "abcdefg") + " # E : a", TooMany, "found", 7)):
            for desk in (Desk(), read_desk()):
                self.keeps(kind, field, kept, desk, f"grammar {text}")

    def test_grammars_that_are_not_clean(self):
        for word in ("table", "laid", "read", "quick", "read S", "quick" + " a" * 41):
            self.keeps(Dead, "number", 1, desk_of(DEAD), word)
            self.keeps(Dead, "number", 1, desk_of(DEAD_AND_VAST), word)
            self.keeps(Dead, "number", 0, desk_of("S : S a"), word)
            self.keeps(Vast, "head", "S", desk_of(FORTY_ONE), word)

    def test_states_that_are_too_many(self):
        for word in ("table", "laid", "read", "quick", "read S", "quick" + " a" * 41):
            self.keeps(TooMany, "found", 301, desk_of(ONE_MORE), word)

    def test_open_choices(self):
        for text, state, ahead in ((SUMS, 11, "+"), (THREE_HUNDRED, 74, "h")):
            for word in ("laid", "read", "quick", "read S", "read" + " n" * 41, "quick", "quick "):
                self.keeps(Open, "state", state, desk_of(text), word)
                self.keeps(Open, "ahead", ahead, desk_of(text), word)

    def test_rows(self):
        desk = read_desk()
        for word in ("read", "quick"):
            for row in ([""], ["n", ""], ["", "n"], ["S"], ["n", "E"], ["$"], ["aaaaaaa"], ["n"] * 41, ["n", "", "n"]):
                self.keeps(NoRow, "found", row, desk, " ".join([word] + row))
        for word in ("all", "on", "mend 1 1"):
            for row in ([""], ["n", ""], ["S"], ["n"] * 11, ["n"] * 10 + [""]):
                self.keeps(NoRow, "found", row, desk, " ".join([word] + row))

    def test_vast_ahead_of_rows(self):
        for word in ("all", "on", "mend 1 1", "mend 0 21"):
            self.keeps(Vast, "head", "S", desk_of(FORTY_ONE), word + " S")
            self.keeps(Vast, "head", "A", desk_of(DEAD_AND_VAST), word)

    def test_mends(self):
        self.keeps(Dead, "number", 0, desk_of("S : S a"), "mend 0 0 S")
        for put, out in ((0, 1), (1, 0), (21, 1), (1, 21), (9999, 9999)):
            self.keeps(NoPrice, "found", "(", read_desk(), f"mend {put} {out} n")
            self.keeps(NoPrice, "found", "!", read_desk(), f"mend {put} {out} n !")
            self.keeps(NoRow, "found", ["n", "E"], read_desk(), f"mend {put} {out} n E")

    def test_changes(self):
        for line, kind, field, kept in (
                ("change 6 0", NoPlace, "place", 6), ("change 6 9 S", NoPlace, "place", 6), ("change 9999 0", NoPlace, "place", 9999),
                ("change 5 1", NoPlace, "place", 1), ("change 0 6", NoPlace, "place", 6), ("change 3 3 S", NoPlace, "place", 3),
                ("change 0 0 S", NoRow, "found", ["S"]), ("change 5 0 ", NoRow, "found", [""]),
                ("change 0 0" + " n" * 36, NoRow, "found", ["n"] * 36), ("change 0 5" + " n" * 41, NoRow, "found", ["n"] * 41)):
            self.keeps(kind, field, kept, read_desk(), line)
        desk = read_desk()
        self.assertEqual(desk.say("change 0 0" + " n" * 35), "refused 1 : $ +")


class TestInOrder(DeskRefusing):

    def test_no_line_ahead_of_no_symbol(self):
        self.no_line(Desk(), "first zz")
        self.no_line(read_desk(), "first zz n")
        self.no_line(read_desk(), "behind zz ")

    def test_no_line_ahead_of_what_the_stages_refuse(self):
        for text in (DEAD, FORTY_ONE, ONE_MORE, SUMS):
            for line in ("table n", "laid ", "change 0 0 S", "looked", "change 0 x S", "mend 0 x S", "mend 12345 0 S", "read\tS"):
                self.no_line(desk_of(text), line)

    def test_change_ahead_of_any_row_ahead_of_its_place(self):
        self.no_line(desk_of(LEFT), "change 7 7 S")


class TestNothingChanges(DeskRefusing):

    BAD = ("grammar", "grammar ", "grammar S", "grammar S : A", "grammar S : a | a", "grammar left +", "grammar S : a #", "show ",
           "first zz", "behind zz", "read E", "read" + " n" * 41, "quick E", "change 0 0 E", "change 9 0", "change 0 9", "change 0",
           "change 0 0" + " n" * 40, "looked ", "all E", "on E", "mend 0 0", "mend 1 1 E", "mend 1", "hello", "", None, 5, ["show"])

    def test_of_a_desk_with_a_row(self):
        for bad in self.BAD:
            desk = read_desk()
            self.assertNotEqual(outcome(desk.say, bad)[0], "told", bad)
            self.assertEqual(desk.say("looked"), "3 5")
            self.assertEqual(desk.say("show"), LEFT.replace("\n", " # "))
            self.assertEqual(desk.say("change 5 0"), "read {0 {0 {2 n} + {2 n}} + {2 n}}")
            self.assertEqual(desk.say("table"), "14 2 2 0")

    def test_of_a_desk_without_a_row(self):
        for bad in self.BAD:
            desk = desk_of(SUMS)
            self.assertNotEqual(outcome(desk.say, bad)[0], "told", bad)
            self.assertEqual(desk.say("show"), SUMS)
            self.no_line(desk, "looked")

    def test_what_is_handed_in(self):
        thing = ["show"]
        self.no_line(read_desk(), thing)
        self.assertEqual(thing, ["show"])

    def test_a_refused_row_does_not_stand_for_the_last_one(self):
        desk = desk_of("S : a S | ~")
        desk.say("read a")
        self.keeps(NoRow, "found", ["S"], desk, "read S")
        self.assertEqual(desk.say("change 0 1"), "read {1}")


if __name__ == "__main__":
    unittest.main()
