"""[24], [25], [26], [6]: grammars read from texts, and shown."""

import itertools
import unittest

from rulestable.errors import Doubled, NoHead, NoRanks, NoRule, NoText, TooMany
from rulestable.grammar import Grammar
from rulestable.grammartext import read_grammar, show_grammar
from tests.growing import some_grammars
from tests.refusing import Refusing
from tests.things import far_numbers, no_words, other_things, truths
from tests.writing import by_patterns, grammar_told

EXAMPLE = "left + -\nright ^\nE : E + E | E - E | E ^ E | n\nEmpty : ~"
EXAMPLE_RULES = (("E", ("E", "+", "E")), ("E", ("E", "-", "E")), ("E", ("E", "^", "E")), ("E", ("n",)), ("Empty", ()))
EXAMPLE_RANKS = (("left", ("+", "-")), ("right", ("^",)))


class TestRead(Refusing):

    def reads(self, text, rules, ranks=()):
        grammar = read_grammar(text)
        self.assertIs(type(grammar), Grammar)
        self.assertEqual(grammar.rules, tuple(rules))
        self.assertEqual(grammar.ranks, tuple(ranks))
        self.assertEqual(grammar.start, rules[0][0])

    def test_the_example(self):
        self.reads(EXAMPLE, EXAMPLE_RULES, EXAMPLE_RANKS)

    def test_the_smallest_texts(self):
        self.reads("E : ~", [("E", ())])
        self.reads("E : a", [("E", ("a",))])
        self.reads("E : E", [("E", ("E",))])

    def test_rules_are_numbered_from_row_to_row_and_from_the_left(self):
        self.reads("E : a | b | F\nF : c\nE : ~ | d\nF : ~",
                   [("E", ("a",)), ("E", ("b",)), ("E", ("F",)), ("F", ("c",)), ("E", ()), ("E", ("d",)), ("F", ())])

    def test_a_head_may_have_several_rows_one_behind_the_other(self):
        self.reads("E : a\nE : b\nE : ~", [("E", ("a",)), ("E", ("b",)), ("E", ())])

    def test_ranks_the_weakest_first(self):
        ranks = [("none", ("=",)), ("left", ("+", "-", "left")), ("right", ("^",)), ("left", ("none", "right"))]
        self.reads("none =\nleft + - left\nright ^\nleft none right\nE : n", [("E", ("n",))], ranks)

    def test_words_of_sides_are_signs_elsewhere(self):
        self.reads("E : left right none | none", [("E", ("left", "right", "none")), ("E", ("none",))])

    def test_bodies_of_one_to_four_symbols(self):
        self.reads("E : a | a E | a E b | a E b E", [("E", ("a", "E", "b", "E")[:count]) for count in range(1, 5)])

    def test_all_kinds_of_words(self):
        self.reads("Abcdef : abcdef 0 012345 +-*/() | []=<>, ;.!?^& Z9\nZ9 : ~",
                   [("Abcdef", ("abcdef", "0", "012345", "+-*/()")), ("Abcdef", ("[]=<>,", ";.!?^&", "Z9")), ("Z9", ())])

    def test_twenty_rules_in_one_row_and_in_twenty(self):
        bodies = [f"{one} {other}" for one in "abcd" for other in "vwxyz"]
        rules = [("E", tuple(body.split(" "))) for body in bodies]
        self.reads("E : " + " | ".join(bodies), rules)
        self.reads("\n".join(f"E : {body}" for body in bodies), rules)

    def test_six_ranks_of_ten_signs(self):
        ranks = [("right", tuple(f"{mark}{figure}" for figure in range(10))) for mark in "abcdef"]
        self.reads("\n".join(f"right {' '.join(signs)}" for side, signs in ranks) + "\nE : ~", [("E", ())], ranks)


class TestNoText(Refusing):

    def no_text(self, line, text):
        self.refuses(NoText, "line", line, read_grammar, text)

    def test_what_is_no_text(self):
        for thing in other_things() + truths() + far_numbers() + [0, 1, b"E : a", ["E : a"], ("E : a",), {"E : a": 1}]:
            self.no_text(0, thing)

    def test_words_alone(self):
        for text in no_words() + ["a", "E", "left", "E:", "E:a", "left+"]:
            self.no_text(0, text)

    def test_rows_without_words(self):
        self.no_text(0, "")
        self.no_text(0, "\n")
        self.no_text(0, "\nE : a")
        self.no_text(1, "E : a\n")
        self.no_text(1, "E : a\n\n")
        self.no_text(1, "E : a\n\nE : b")
        self.no_text(1, "left +\n\nE : b")
        self.no_text(4, EXAMPLE + "\n")

    def test_blanks(self):
        for row in (" E : a", "E : a ", "E  : a", "E :  a", "E : a  b", "E : a | b ", "E : a  | b", "E : a |  b",
                    " left +", "left + ", "left  +", "left +  -", "E :a", "E: a", "E : a |b", "E : a| b", " ", "E : "):
            self.no_text(0, row + "\nE : a")
            self.no_text(0, row)
            self.no_text(2, f"left *\nE : a\n{row}")

    def test_rows_of_rules_that_lack_something(self):
        for row in ("E", "E :", ": a", "a", "E a", "E : |", "E : a |", "E : | a", "E : a | | b", "E : | |", ":", "|", "~",
                    "E |", "E ~", "E : :", "E : : a", "E : a :", "E : a : b", "E :: a", "E : E : a", "e : a", "$ : a",
                    "E : $", "E : a $", "EE : a", "E : aE", "E : EE", "E F : a", "a : E", "E : aaaaaaa", "Abcdefg : a"):
            self.no_text(0, row)
            self.no_text(1, "E : a\n" + row)
            self.no_text(1, "left +\n" + row)

    def test_the_word_for_nothing_among_symbols(self):
        for row in ("E : ~ a", "E : a ~", "E : ~ ~", "E : a | ~ b", "E : a ~ b | ~", "E : ~~", "~ : a", "E ~ : a"):
            self.no_text(0, row)
            self.no_text(1, "E : a\n" + row)

    def test_rows_of_ranks_that_lack_something(self):
        for row in ("left", "none", "Left +", "left E", "left + E", "left ~", "left + | -", "left : +", "lef +",
                    "+ left", "left $", "left aaaaaaa", "middle +", "left + right : a"):
            self.no_text(0, row + "\nE : a")
            self.no_text(1, f"none =\n{row}\nE : a")

    def test_rows_of_ranks_behind_rows_of_rules(self):
        self.no_text(1, "E : a\nleft +")
        self.no_text(2, "left +\nE : a\nright ^\nE : b")
        self.no_text(3, "left +\nE : a\nE : b\nright ^")

    def test_other_characters_that_part_rows_or_words(self):
        for mark in ("\r", "\t", "\x0b", "\x0c", "\x1c", "\x85", "\xa0", "\u2028", "\u3000", "\0"):
            self.no_text(0, f"E : a{mark}")
            self.no_text(0, f"E :{mark}a")
            self.no_text(0, f"E : a{mark}E : b")
            self.no_text(1, f"E : a\n{mark}E : b")

    def test_letters_that_only_look_so(self):
        for text in ("\xc4 : a", "E : \xe4", "E : \u0430", "\u0415 : a", "E\uff1a a", "E : \uff41", "E1\xb2 : a", "left \xb1"):
            self.no_text(0, text)

    def test_the_first_such_row_is_told(self):
        self.no_text(1, "E : a\nbad\nworse :\n")
        self.no_text(0, "bad\nE : a\nbad")
        self.no_text(2, "left +\nE : a\nleft -\nE :")

    def test_a_row_far_down(self):
        self.no_text(200, "\n".join(["E : a"] * 200 + ["E : A b :"] + ["E :"]))


class TestThenAsAGrammar(Refusing):

    def test_only_rows_of_ranks(self):
        self.refuses(TooMany, "found", 0, read_grammar, "left +")
        self.refuses(TooMany, "found", 0, read_grammar, "left + +\nright +\nnone +")
        self.refuses(TooMany, "found", 0, read_grammar, "\n".join(f"left a{place}" for place in range(9)))

    def test_too_many_rules(self):
        bodies = " | ".join(f"{one} {other}" for one in "abcde" for other in "vwxyz")
        self.refuses(TooMany, "found", 25, read_grammar, f"E : {bodies}")
        self.refuses(TooMany, "found", 21, read_grammar, "\n".join(["E : a"] * 21))

    def keeps(self, kind, kept, text):
        with self.assertRaises(kind) as caught:
            read_grammar(text)
        self.assertIs(type(caught.exception), kind)
        self.assertEqual(caught.exception.found, kept)
        self.assertIs(type(caught.exception.found), type(kept))

    def test_bodies_of_five(self):
        self.keeps(NoRule, ("E", ("a", "b", "E", "c", "d")), "E : a | a b E c d | F")
        self.keeps(NoRule, ("E", ("a",) * 300), "E : " + " ".join(["a"] * 300))

    def test_doubled_rules(self):
        self.refuses(Doubled, "number", 1, read_grammar, "E : a | a")
        self.refuses(Doubled, "number", 3, read_grammar, "E : ~ | a\nF : ~\nE : ~ | a | b c d e f")
        self.refuses(Doubled, "number", 2, read_grammar, "left + +\nE : a b | F\nE : a b")

    def test_heads_that_no_rule_has(self):
        self.refuses(NoHead, "head", "F", read_grammar, "left + +\nE : a | b F G\nG : H")
        self.refuses(NoHead, "head", "Ab", read_grammar, "E : Ab\nAb1 : ~")

    def test_too_many_heads_and_signs(self):
        self.refuses(TooMany, "found", 9, read_grammar, "\n".join(f"{head} : ~" for head in "ABCDEFGHI"))
        self.refuses(TooMany, "found", 11, read_grammar, "left + +\nE : a b c d | e f g h | i j k")

    def test_ranks(self):
        self.refuses(TooMany, "found", 7, read_grammar, "\n".join(["left +"] * 7 + ["E : a"]))
        self.keeps(NoRanks, ("left", ("+", "-", "+")), "right -0\nleft + - +\nE : a")
        self.keeps(NoRanks, ("none", ("-", "*")), "left + -\nright ^\nnone - *\nE : a")
        eleven = tuple(f"a{place}" for place in range(11))
        self.keeps(NoRanks, ("left", eleven), f"left {' '.join(eleven)}\nE : a")

    def test_the_form_of_each_row_goes_ahead(self):
        for text in ("E : a b c d e\n", "E : a | a\nE :", "E : F\nbad", "left + +\nE : a | a\nleft -", "left a\nleft a\nE"):
            self.refuses(NoText, "line", text.count("\n"), read_grammar, text)

    def test_in_the_order_of_grammars(self):
        self.refuses(TooMany, "found", 21, read_grammar, "left + +\n" + "\n".join(["E : a b c d e F"] * 21))
        self.keeps(NoRule, ("E", ("F",) * 5), "left + +\nE : F F F F F | a | a")
        self.refuses(Doubled, "number", 1, read_grammar, "left + +\nE : F | F | a a a a a")

    def test_just_as_the_grammar_of_these_rules_and_ranks(self):
        bodies = ["~", "a", "F", "a b c d e", "E E", "G a"]
        for ranks in ("", "left + +\n", "left a\nright a\n", "left a\nright b\n"):
            for chosen in itertools.product(bodies, repeat=3):
                text = f"{ranks}E : {chosen[0]} | {chosen[1]}\nF : {chosen[2]} | c"
                rules, told = by_patterns(text)
                self.assertEqual(grammar_told(read_grammar, text), grammar_told(Grammar, rules, told))


class TestAgainstPatterns(unittest.TestCase):
    """Every short text of some parts, against a reader of patterns that is the test's own."""

    def compare(self, text):
        found = by_patterns(text)
        if isinstance(found, int):
            self.assertEqual(grammar_told(read_grammar, text), (NoText, {"line": found}), repr(text))
        else:
            rules, ranks = found
            self.assertEqual(grammar_told(read_grammar, text), grammar_told(Grammar, rules, ranks), repr(text))

    def test_short_texts_of_words_and_blanks(self):
        for length in range(6):
            for parts in itertools.product(["E", "a", ":", "|", "~", " ", "\n"], repeat=length):
                self.compare("".join(parts))

    def test_rows_of_words(self):
        words = ["E", "F", "a", "left", ":", "|", "~", ""]
        for length in range(1, 5):
            for parts in itertools.product(words, repeat=length):
                self.compare(" ".join(parts))
                self.compare("E : " + " ".join(parts))
                self.compare("left + " + " ".join(parts))

    def test_rows_one_behind_the_other(self):
        rows = ["E : a", "E : ~ | b", "F : E", "left +", "right a b", "none +", "", "E :", "left", "E : E F"]
        for length in range(1, 5):
            for parts in itertools.product(rows, repeat=length):
                self.compare("\n".join(parts))


class TestShown(unittest.TestCase):

    def test_the_example(self):
        self.assertEqual(show_grammar(Grammar(list(EXAMPLE_RULES), EXAMPLE_RANKS)), EXAMPLE)
        self.assertEqual(show_grammar(read_grammar(EXAMPLE)), EXAMPLE)

    def test_runs_of_one_head_are_one_row_each(self):
        rules = [("E", ("F",)), ("E", ()), ("F", ("a", "b")), ("E", ("a",)), ("F", ()), ("F", ("E", "E", "E", "E"))]
        self.assertEqual(show_grammar(Grammar(rules)), "E : F | ~\nF : a b\nE : a\nF : ~ | E E E E")

    def test_the_smallest(self):
        self.assertEqual(show_grammar(Grammar([("E", ())])), "E : ~")
        self.assertEqual(show_grammar(Grammar([("E", ())], [("none", ("a",))])), "none a\nE : ~")

    def test_rows_that_could_be_one_are_shown_as_one(self):
        self.assertEqual(show_grammar(read_grammar("E : a\nE : b | c\nF : ~\nF : d")), "E : a | b | c\nF : ~ | d")

    def test_heads_that_begin_alike_are_not_one_run(self):
        self.assertEqual(show_grammar(Grammar([("E", ()), ("Ea", ()), ("E", ("a",))])), "E : ~\nEa : ~\nE : a")

    def test_there_and_back(self):
        for grammar in some_grammars(300):
            again = read_grammar(show_grammar(grammar))
            self.assertEqual((again.rules, again.ranks, again.start), (grammar.rules, grammar.ranks, grammar.start))
            self.assertEqual(show_grammar(again), show_grammar(grammar))

    def test_the_greatest_there_and_back(self):
        rules = [(head, (one * 6, other * 6, head, head)) for head in ("Aaaaaa", "Baaaaa") for one in "abcde"
                 for other in "vw"]
        ranks = [("left", tuple(f"{mark}{figure}" for figure in range(10))) for mark in "abcdef"]
        again = read_grammar(show_grammar(Grammar(rules, ranks)))
        self.assertEqual((again.rules, again.ranks), (tuple(rules), tuple(ranks)))

    def test_a_text(self):
        self.assertIs(type(show_grammar(Grammar([("E", ())]))), str)

    def test_the_same_each_time(self):
        grammar = read_grammar(EXAMPLE)
        self.assertEqual(show_grammar(grammar), show_grammar(grammar))
        self.assertEqual((grammar.rules, grammar.ranks), (EXAMPLE_RULES, EXAMPLE_RANKS))
        for text in (EXAMPLE, "E", "E : a\n"):
            self.assertEqual(grammar_told(read_grammar, text), grammar_told(read_grammar, text))


if __name__ == "__main__":
    unittest.main()
