"""[141] to [146]: the lines of a desk, their answers and the forms of these."""

import unittest

from rulestable.desk import Desk
from rulestable.errors import NoLine, NoPlace
from rulestable.grammartext import read_grammar, show_grammar
from tests.asking import GRAMMARS, OwnDesk, desk_of
from tests.texts import DEAD, EMPTY, FORTY, SUMS, TERMS, THREE_HUNDRED

LEFT = "grammar left + # E : E + E | ( E ) | n"


class Saying(unittest.TestCase):

    def says(self, desk, *told):
        """Lines and their answers, by turns."""
        for line, answer in zip(told[::2], told[1::2], strict=True):
            found = desk.say(line)
            self.assertIs(type(found), str)
            self.assertEqual(found, answer, line)


class TestGrammar(Saying):

    def test_told_and_shown(self):
        self.says(Desk(), LEFT, "ok", "show", "left + # E : E + E | ( E ) | n", "heads", "E", "signs", "( ) + n",
                  "empty", "none", "live", "0 1 2", "first E", "( n", "first +", "+", "behind E", "$ ) +")

    def test_each_line_feed(self):
        for text in GRAMMARS:
            shown = show_grammar(read_grammar(text)).replace("\n", " # ")
            self.says(desk_of(text), "show", shown)
        self.says(Desk(), "grammar E : a # E : b # F : ~", "ok", "show", "E : a | b # F : ~")

    def test_one_row(self):
        self.says(Desk(), "grammar E : a", "ok", "show", "E : a")

    def test_empty_and_first_and_behind(self):
        self.says(desk_of(EMPTY), "heads", "A B S", "signs", "a b c", "empty", "A B S", "live", "0 1 2 3 4 5",
                  "first S", "a b c", "first A", "a", "first B", "b", "first c", "c", "behind S", "$", "behind A", "$ b c",
                  "behind B", "c")

    def test_lists_with_nothing_in_them(self):
        self.says(desk_of("S : ~"), "heads", "S", "signs", "none", "empty", "S", "live", "0", "first S", "none", "behind S", "$")
        self.says(desk_of("S : S a"), "heads", "S", "signs", "a", "empty", "none", "live", "none", "first S", "none",
                  "first a", "a")

    def test_rules_that_are_not_live(self):
        self.says(desk_of(DEAD), "live", "0 2", "heads", "B S", "first B", "none", "first S", "a b")
        self.says(desk_of("S : a\nC : c"), "live", "0", "first C", "c", "first c", "c")

    def test_signs_of_ranks_alone_are_none_of_the_grammar(self):
        self.says(desk_of("left +\nS : a"), "signs", "a", "show", "left + # S : a")

    def test_numbers_of_two_figures(self):
        text = "S : " + " | ".join(f"{one} {other}" for one in "abc" for other in "vwxy")
        self.says(desk_of(text), "live", "0 1 2 3 4 5 6 7 8 9 10 11", "read c y", "read {11 c y}")


class TestTable(Saying):

    def test_how_many(self):
        self.says(desk_of("left +\n" + SUMS), "table", "14 2 2 0", "laid", "8")
        self.says(desk_of(SUMS), "table", "14 2 0 2")
        self.says(desk_of("left n\n" + SUMS), "table", "14 2 0 2")
        self.says(desk_of("S : C C\nC : c C | d"), "table", "10 0 0 0", "laid", "7")
        self.says(desk_of("S : ~"), "table", "2 0 0 0", "laid", "2")
        self.says(desk_of(THREE_HUNDRED), "table", "300 28 0 28")


class TestReading(Saying):

    def test_read_and_refused(self):
        for word in ("read", "quick"):
            self.says(Desk(), LEFT, "ok", f"{word} n", "read {2 n}", f"{word} n + n", "read {0 {2 n} + {2 n}}",
                      f"{word} n + n + n", "read {0 {0 {2 n} + {2 n}} + {2 n}}", f"{word} ( n )", "read {1 ( {2 n} )}",
                      f"{word} n n", "refused 1 : $ +", f"{word} n +", "refused 2 : ( n", f"{word}", "refused 0 : ( n",
                      f"{word} zz", "refused 0 : ( n", f"{word} ( n", "refused 2 : ) +", f"{word} n + zz n", "refused 2 : ( n")

    def test_a_row_without_signs(self):
        self.says(desk_of("S : a S | ~"), "read", "read {1}", "quick", "read {1}", "change 0 0 a", "read {0 a {1}}",
                  "all", "one {1}", "on", "0", "mend 1 1", "0")

    def test_forty_signs(self):
        row = " ".join("a" * 40)
        tree = "read " + "{0 a " * 40 + "{1}" + "}" * 40
        self.says(desk_of("S : a S | ~"), "read " + row, tree, "quick " + row, tree, "looked", "0 41",
                  "change 40 0", tree, "change 39 1 b", "refused 39 : $ a", "looked", "39 40")

    def test_nothing_could_stand_there(self):
        self.says(desk_of("none a\nA : B B\nB : a B | a"), "read a a", "refused 1 : none", "quick a a", "refused 1 : none",
                  "looked", "0 2")

    def test_changes(self):
        self.says(Desk(), LEFT, "ok", "read n + n + n", "read {0 {0 {2 n} + {2 n}} + {2 n}}", "looked", "0 6",
                  "change 2 1 ( n )", "read {0 {0 {2 n} + {1 ( {2 n} )}} + {2 n}}", "looked", "2 6",
                  "change 0 0", "read {0 {0 {2 n} + {1 ( {2 n} )}} + {2 n}}", "looked", "0 0",
                  "change 0 1", "refused 0 : ( n", "looked", "0 1", "change 3 1", "refused 0 : ( n", "looked", "3 3",
                  "change 0 0 n", "refused 6 : ) +", "change 4 0 )", "read {0 {0 {2 n} + {1 ( {2 n} )}} + {2 n}}",
                  "change 0 7 n", "read {2 n}", "looked", "0 2")

    def test_a_refused_row_is_changed_too(self):
        self.says(Desk(), LEFT, "ok", "read n n", "refused 1 : $ +", "looked", "0 2", "change 1 0 +", "read {0 {2 n} + {2 n}}")

    def test_the_row_of_the_last_line_read(self):
        self.says(Desk(), LEFT, "ok", "read n", "read {2 n}", "quick n + n", "read {0 {2 n} + {2 n}}", "looked", "0 2",
                  "change 1 0 + n", "read {0 {2 n} + {2 n}}", "read ( n )", "read {1 ( {2 n} )}", "looked", "0 4",
                  "all n", "one {2 n}", "on n", "0", "mend 1 1 n", "0", "change 3 0 + n", "read {0 {1 ( {2 n} )} + {2 n}}")

    def test_numbers_of_four_figures(self):
        desk = desk_of("S : a")
        self.says(desk, "read a", "read {0 a}", "change 0 0", "read {0 a}")
        self.assertRaises(NoPlace, desk.say, "change 9999 0")
        self.assertRaises(NoLine, desk.say, "change 10000 0")


class TestByAllWays(Saying):

    def test_all(self):
        self.says(desk_of(SUMS), "all n", "one {2 n}", "all n +", "none", "all", "none", "all zz", "none",
                  "all n + n", "one {0 {2 n} + {2 n}}", "all ( n )", "one {1 ( {2 n} )}")
        self.assertIn(desk_of(SUMS).say("all n + n + n"), ("two {0 {0 {2 n} + {2 n}} + {2 n}}",
                                                           "two {0 {2 n} + {0 {2 n} + {2 n}}}"))
        self.says(desk_of("S : A A | a\nA : ~ | a"), "all a", "two {1 a}", "all", "one {0 {2} {2}}", "all a a",
                  "one {0 {3 a} {3 a}}")
        self.says(desk_of("S : S | a"), "all a", "two {1 a}")

    def test_on(self):
        self.says(desk_of(SUMS), "on", "1", "on n", "0", "on n +", "1", "on (", "2", "on ( ( n + (", "4", "on n n", "none",
                  "on zz", "none", "on ( ( ( ( ( ( ( ( ( (", "11")
        self.says(desk_of("S : S a"), "on", "none")

    def test_mend(self):
        self.says(desk_of(SUMS), "mend 1 2 n n", "1", "mend 2 1 n n", "1", "mend 3 2 n n", "2", "mend 1 1", "1", "mend 20 1", "20",
                  "mend 20 20 zz", "40", "mend 1 1 n", "0", "mend 1 20 n n n n n n n n n n", "9", "mend 1 1 ( n", "1")
        self.says(desk_of("S : ~"), "mend 1 20 a a", "40", "mend 0 0", "0", "mend 9999 21", "0")

    def test_of_grammars_that_have_no_table(self):
        self.says(desk_of(DEAD), "all a", "one {0 a}", "on", "1", "mend 1 1 b b", "1")
        self.says(desk_of(FORTY), "on b b b b", "26", "mend 1 1", "30")


class TestBesideTheOwnDesk(Saying):

    LINES = ["show", "heads", "signs", "empty", "live", "table", "laid", "read", "looked", "quick", "all", "on", "mend 1 1"]

    def test_all_lines_of_many_grammars(self):
        for text in GRAMMARS + (TERMS,):
            desk, own = Desk(), OwnDesk()
            line = "grammar " + text.replace("\n", " # ")
            self.assertEqual(desk.say(line), own.say(line))
            rules = read_grammar(text).rules
            symbols = sorted({symbol for head, body in rules for symbol in (head,) + body})
            lines = self.LINES + [f"first {symbol}" for symbol in symbols] + [f"behind {symbol}" for symbol in symbols]
            for line in lines:
                try:
                    wanted = own.say(line)
                except ValueError as refusal:
                    with self.assertRaises(type(refusal)) as caught:
                        desk.say(line)
                    self.assertEqual(vars(caught.exception), vars(refusal), line)
                else:
                    self.assertEqual(desk.say(line), wanted, line)


class TestTheSame(Saying):

    def test_asked_again(self):
        desk = desk_of("left +\n" + SUMS)
        for turn in range(2):
            self.says(desk, "table", "14 2 2 0", "laid", "8", "read n + n", "read {0 {2 n} + {2 n}}", "looked", "0 4",
                      "looked", "0 4", "quick n", "read {2 n}", "show", "left + # " + SUMS, "mend 1 2 n n", "1")

    def test_two_desks(self):
        one, other = Desk(), Desk()
        self.says(one, "grammar S : a", "ok")
        self.assertRaises(NoLine, other.say, "show")
        self.says(other, "grammar S : b S | ~", "ok", "read b", "read {0 b {1}}")
        self.assertRaises(NoLine, one.say, "looked")
        self.says(one, "show", "S : a", "read a", "read {0 a}", "looked", "0 2")
        self.says(other, "change 0 0 b", "read {0 b {0 b {1}}}", "looked", "0 3", "show", "S : b S | ~")
        self.says(one, "looked", "0 2", "change 1 0", "read {0 a}", "looked", "1 1")


if __name__ == "__main__":
    unittest.main()
