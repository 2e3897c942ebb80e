"""[131] to [134]: kinds of words, the own grammar and its table, and texts read by it."""

import itertools
import random
import unittest

from rulestable.errors import Doubled, NoHead, NoRanks, NoRule, NoText, TooMany
from rulestable.grammar import Grammar
from rulestable.grammartext import read_grammar
from rulestable.laying import Laid
from rulestable.ownbook import kinds_of, own_grammar, own_table, read_by_table
from rulestable.reader import Reading
from rulestable.states import States
from rulestable.tables import Table
from rulestable.words import is_row, is_sign
from tests.doing import OwnTable
from tests.looking import signs_of
from tests.refusing import Refusing, spoil
from tests.things import all_things, no_words, other_things
from tests.writing import has_own_form, own_kinds, some_texts

OWN_TEXT = """Row : Rank | Rule
Rank : side Signs
Signs : Signs sign | sign
Rule : head is Bodies
Bodies : Bodies or Body | Body
Body : empty | Things
Things : Things Thing | Thing
Thing : head | sign"""
EXAMPLE = "left + -\nright ^\nE : E + E | E - E | E ^ E | n\nEmpty : ~"
KINDS = ("side", "sign", "head", "is", "or", "empty", "bad")


def both():
    table = own_table()
    return table, Laid(table)


class TestKinds(unittest.TestCase):

    def kinds(self, row, wanted):
        self.assertEqual(kinds_of(row), wanted.split(), row)
        self.assertEqual(own_kinds(row), wanted.split(), row)

    def test_rows_of_texts(self):
        self.kinds("left + -", "side sign sign")
        self.kinds("right ^", "side sign")
        self.kinds("none = <", "side sign sign")
        self.kinds("E : E + E | n", "head is head sign head or sign")
        self.kinds("Empty : ~", "head is empty")

    def test_sides_at_the_first_place_alone(self):
        self.kinds("left", "side")
        self.kinds("left left right none", "side sign sign sign")
        self.kinds("+ left", "sign sign")
        self.kinds("E : left none | right", "head is sign sign or sign")
        self.kinds(" left", "bad sign")
        for word in ("Left", "lef", "leftt", "rights", "nones", "None", "LEFT"):
            self.assertNotEqual(kinds_of(word), ["side"])

    def test_words_without_characters(self):
        self.kinds("", "bad")
        self.kinds(" ", "bad bad")
        self.kinds("  ", "bad bad bad")
        self.kinds("E  :", "head bad is")
        self.kinds("E : a ", "head is sign bad")
        self.kinds(" E", "bad head")

    def test_marks(self):
        self.kinds(": | ~", "is or empty")
        self.kinds(":: || ~~ :a |a ~a a: a~", "bad bad bad bad bad bad bad bad")
        self.kinds("$ E $", "bad head bad")
        self.kinds("a EE aaaaaaa Aaaaaaa aaaaaa Aaaaaa", "sign bad bad bad sign head")

    def test_whatever_words(self):
        for word in no_words():
            if " " not in word and word not in (":", "|", "~"):
                self.assertEqual(kinds_of(word), ["bad"])
                self.assertEqual(kinds_of(f"E {word} a"), ["head", "bad", "sign"])

    def test_rows_of_random_characters(self):
        chance = random.Random(131)
        for turn in range(3000):
            row = "".join(chance.choice("aE0+:|~ $_") for place in range(chance.randint(0, 12)))
            row = chance.choice(("", "", "left ", "none", "right ")) + row
            self.assertEqual(kinds_of(row), own_kinds(row), row)

    def test_kinds_are_signs(self):
        told = kinds_of("left a E : | ~ $")
        self.assertTrue(is_row(told, 40))
        for kind in KINDS:
            self.assertTrue(is_sign(kind))

    def test_a_new_list_each_time(self):
        spoil(self, lambda: kinds_of("left a"))
        self.assertEqual(kinds_of("left a"), ["side", "sign"])

    def test_many_words(self):
        self.assertEqual(kinds_of("a " * 1999 + "a"), ["sign"] * 2000)


class TestOwnGrammar(unittest.TestCase):

    def test_its_rules(self):
        grammar = own_grammar()
        self.assertIs(type(grammar), Grammar)
        self.assertEqual(grammar.rules, read_grammar(OWN_TEXT).rules)
        self.assertEqual(grammar.rules[:3], (("Row", ("Rank",)), ("Row", ("Rule",)), ("Rank", ("side", "Signs"))))
        self.assertEqual(len(grammar.rules), 14)
        self.assertEqual(grammar.ranks, ())
        self.assertEqual(grammar.start, "Row")
        self.assertEqual(grammar.signs(), ["empty", "head", "is", "or", "side", "sign"])

    def test_its_table(self):
        table = own_table()
        self.assertIs(type(table), Table)
        self.assertIs(type(table.states), States)
        self.assertEqual(table.grammar.rules, own_grammar().rules)
        self.assertEqual(table.conflicts(), [])
        self.assertEqual((table.decided(), table.open_ones()), ([], []))
        own = OwnTable(own_grammar())
        self.assertEqual(table.many(), len(own.states))
        for state in range(table.many()):
            self.assertEqual(table.states.items(state), own.states[state])
            for ahead in signs_of(own.rules) + ["$", "bad"]:
                self.assertEqual(table.entry(state, ahead), own.entry(state, ahead))

    def test_the_same_each_time(self):
        self.assertEqual(own_grammar().rules, own_grammar().rules)
        self.assertEqual(own_table().many(), own_table().many())

    def test_the_kinds_of_rows_are_let_by(self):
        for table in both():
            for length in range(5):
                for kinds in itertools.product(KINDS, repeat=length):
                    wanted = "read" if has_own_form(kinds) else "refused"
                    self.assertEqual(Reading(table, list(kinds)).word(), wanted, kinds)

    def test_trees_begin_by_the_rule_of_their_row(self):
        for table in both():
            self.assertEqual(Reading(table, kinds_of("left +")).made().number, 0)
            self.assertEqual(Reading(table, kinds_of("E : left")).made().number, 1)


class TestRead(Refusing):

    def reads(self, text, rules, ranks=()):
        for table in both():
            grammar = read_by_table(table, text)
            self.assertIs(type(grammar), Grammar)
            self.assertEqual((grammar.rules, grammar.ranks), (tuple(rules), tuple(ranks)))
            self.assertEqual(grammar.start, rules[0][0])

    def refused(self, kind, field, kept, text):
        for table in both():
            if type(kept) is tuple:
                with self.assertRaises(kind) as caught:
                    read_by_table(table, text)
                self.assertIs(type(caught.exception), kind)
                self.assertEqual(getattr(caught.exception, field), kept)
            else:
                self.refuses(kind, field, kept, read_by_table, table, text)

    def test_the_example(self):
        rules = [("E", ("E", "+", "E")), ("E", ("E", "-", "E")), ("E", ("E", "^", "E")), ("E", ("n",)), ("Empty", ())]
        self.reads(EXAMPLE, rules, [("left", ("+", "-")), ("right", ("^",))])

    def test_its_own_text(self):
        self.reads(OWN_TEXT, own_grammar().rules)

    def test_rules_are_numbered_from_row_to_row_and_from_the_left(self):
        self.reads("E : a | b | F\nF : c\nE : ~ | d\nF : ~",
                   [("E", ("a",)), ("E", ("b",)), ("E", ("F",)), ("F", ("c",)), ("E", ()), ("E", ("d",)), ("F", ())])

    def test_sides_at_other_places(self):
        self.reads("left left right\nE : left none | right", [("E", ("left", "none")), ("E", ("right",))],
                   [("left", ("left", "right"))])
        self.reads("left side is or\nE : head sign | empty | bad", [("E", ("head", "sign")), ("E", ("empty",)), ("E", ("bad",))],
                   [("left", ("side", "is", "or"))])

    def test_what_is_no_text(self):
        table, laid = both()
        for thing in all_things() + other_things():
            if not isinstance(thing, str):
                self.refuses(NoText, "line", 0, read_by_table, table, thing)
                self.refuses(NoText, "line", 0, read_by_table, laid, thing)

    def test_rows_that_are_not_good(self):
        for row in ("", " ", "E", "E :", "E : ", " E : a", "E : a ", "E  : a", "E : a  b", "E : |", "E : a |", "E : | a",
                    "E : ~ a", "E : a ~", "E : a : b", ": a", "e : a", "EE : a", "E : $", "left", "left ", "left E", "left :",
                    "left + |", "left  +", " left +", "Left +", "up +", "+ left", "left + ~", "~", "E left : a", "E : EE"):
            self.refused(NoText, "line", 0, row)
            self.refused(NoText, "line", 1, "E : a\n" + row)
            self.refused(NoText, "line", 1, "left +\n" + row)
            self.refused(NoText, "line", 2, f"left +\nE : a\n{row}\nE")

    def test_rows_of_ranks_behind_rows_of_rules(self):
        self.refused(NoText, "line", 1, "E : a\nleft +")
        self.refused(NoText, "line", 3, "left +\nright -\nE : a\nleft *\nE : b")
        self.refused(NoText, "line", 2, "E : a\nE : b\nnone *")

    def test_ranks_alone(self):
        self.refused(TooMany, "found", 0, "left +")
        self.refused(TooMany, "found", 0, "left +\nright -\nnone =")
        self.refused(TooMany, "found", 0, "left + +\nleft +")

    def test_as_the_grammar_is_refused(self):
        self.refused(TooMany, "found", 21, "\n".join(f"E : a{number}" for number in range(21)))
        self.refused(NoRule, "found", ("E", tuple("abcde")), "E : a | a b c d e")
        self.refused(Doubled, "number", 2, "E : a | b | a")
        self.refused(NoHead, "head", "F", "E : a | E F")
        self.refused(TooMany, "found", 9, "\n".join(f"{head} : a" for head in "ABCDEFGHI"))
        self.refused(TooMany, "found", 11, "E : a b c d | e f g h | i j k")
        self.refused(TooMany, "found", 7, "\n".join(f"left {sign}" for sign in "abcdefg") + "\nE : a")
        self.refused(NoRanks, "found", ("left", ("+", "+")), "left + +\nE : a")
        self.refused(NoRanks, "found", ("right", ("-", "+")), "left +\nright - +\nE : a")
        self.refused(NoRanks, "found", ("none", tuple("abcdefghijk")), "none a b c d e f g h i j k\nE : a")

    def test_bad_rows_go_ahead_of_bad_grammars(self):
        self.refused(NoText, "line", 1, "E : a | a | F\n")
        self.refused(NoText, "line", 2, "left + +\nE : F | a b c d e\nleft *")
        self.refused(NoText, "line", 21, "\n".join(f"E : a{number}" for number in range(21)) + "\nE")
        self.refused(TooMany, "found", 21, "left + +\n" + "\n".join(["E : F"] * 21))

    def test_rows_of_forty_words_and_more(self):
        bodies = " | ".join(f"{one} {other}" for one in "abc" for other in "uvwxyz")
        for text in ("left " + " ".join("abcdefghij") + "\nE : " + bodies, "E : ~ | " + " | ".join("abcdefghij" * 9),
                     "E : " + " ".join("a" * 1900)):
            for table in both():
                self.refuses_alike(table, text)

    def refuses_alike(self, table, text):
        try:
            wanted = read_grammar(text)
        except (Doubled, NoRule, TooMany) as refusal:
            with self.assertRaises(type(refusal)) as caught:
                read_by_table(table, text)
            self.assertEqual(vars(caught.exception), vars(refusal))
        else:
            self.assertEqual(read_by_table(table, text).rules, wanted.rules)

    def test_nothing_is_kept_from_text_to_text(self):
        for table in both():
            for text in some_texts(20, seed=134):
                self.assertRaises(NoText, read_by_table, table, "E : a\nleft +")
                self.assertEqual(read_by_table(table, text).rules, read_grammar(text).rules)
                self.assertEqual(table.open_ones(), [])


if __name__ == "__main__":
    unittest.main()
