"""The tests' own desk, by patterns and by what the parts of the package tell, and lines to say.

The answers are written here; rows are changed and looked at here too, by readings afresh.
"""

import re

from rulestable.books import empty_heads, first_signs, follow_signs, live
from rulestable.chart import goes_on, tree_for, two_trees
from rulestable.desk import Desk
from rulestable.errors import NoLine, NoPlace, NoRow, NoSymbol
from rulestable.grammartext import read_grammar, show_grammar
from rulestable.laying import Laid
from rulestable.mending import mend
from rulestable.reader import Reading
from rulestable.states import States
from rulestable.tables import Table
from tests.growing import is_great, row_of, small_trees, written
from tests.looking import signs_of
from tests.reading import PLAIN_TEXTS, TEXTS, OwnReading, own_looked
from tests.texts import BARE_FORTY_ONE, DEAD, DEAD_AND_VAST, EMPTY, FORTY, FORTY_ONE, SUMS
from tests.writing import SIGN

NUMBER = "(0|[1-9][0-9]{0,3})"
ROW = "((?: [^ ]*)*)"
FORMS = {"grammar": " (.*)", "first": " ([^ ]*)", "behind": " ([^ ]*)", "read": ROW, "quick": ROW, "all": ROW, "on": ROW,
         "change": f" {NUMBER} {NUMBER}{ROW}", "mend": f" {NUMBER} {NUMBER}{ROW}"}
for bare in "show heads signs empty live table laid looked".split():
    FORMS[bare] = ""


def listed(things):
    """Things with blanks between, or that there are none."""
    return " ".join(map(str, things)) or "none"


def tree_text(told):
    """The text of a tree as nested tuples."""
    return told if isinstance(told, str) else "{" + " ".join([str(told[0])] + [tree_text(child) for child in told[1:]]) + "}"


def reading_text(reading):
    if reading.word() == "read":
        return f"read {tree_text(written(reading.made()))}"
    return f"refused {reading.where()} : {listed(reading.expected())}"


class OwnDesk:
    """A desk by the document's words, that makes all anew for each line."""

    def __init__(self):
        self.grammar = self.row = self.last = None

    def say(self, line):
        if not isinstance(line, str):
            raise NoLine(line)
        word = line.split(" ")[0]
        match = re.fullmatch(FORMS[word], line[len(word):]) if word in FORMS else None
        if match is None or (word != "grammar" and self.grammar is None):
            raise NoLine(line)
        if word in ("change", "looked") and self.row is None:
            raise NoLine(line)
        told = list(match.groups())
        if FORMS[word].endswith(ROW):
            told[-1] = told[-1].split(" ")[1:]
        return getattr(self, "say_" + word)(*[int(part) if type(part) is str and FORMS[word] != " (.*)"
                                              and NUMBER in FORMS[word] else part for part in told])

    def table(self):
        return Table(States(self.grammar))

    def say_grammar(self, text):
        grammar = read_grammar("\n".join(text.split(" # ")))
        self.grammar, self.row, self.last = grammar, None, None
        return "ok"

    def say_show(self):
        return " # ".join(show_grammar(self.grammar).split("\n"))

    def say_heads(self):
        return listed(self.grammar.heads())

    def say_signs(self):
        return listed(self.grammar.signs())

    def say_empty(self):
        return listed(empty_heads(self.grammar))

    def say_live(self):
        return listed(live(self.grammar))

    def say_first(self, word):
        if word not in self.grammar.heads() + self.grammar.signs():
            raise NoSymbol(word)
        return listed(first_signs(self.grammar)[word])

    def say_behind(self, word):
        if word not in {self.grammar.rules[number][0] for number in live(self.grammar)}:
            raise NoSymbol(word)
        return listed(follow_signs(self.grammar)[word])

    def say_table(self):
        table = self.table()
        return f"{table.many()} {len(table.conflicts())} {len(table.decided())} {len(table.open_ones())}"

    def say_laid(self):
        return str(len(Laid(self.table()).groups()))

    def say_read(self, row):
        told = reading_text(Reading(self.table(), row))
        new = OwnReading(self.grammar.rules, self.table(), row)
        self.row, self.last = row, (0, len(row) + 1 if new.where is None else new.where + 1)
        return told

    def say_quick(self, row):
        return reading_text(Reading(Laid(self.table()), row))

    def say_change(self, place, out, put):
        if place > len(self.row):
            raise NoPlace(place)
        if out > len(self.row) - place:
            raise NoPlace(out)
        if len(self.row) - out + len(put) > 40 or not all(re.fullmatch(SIGN, sign) for sign in put):
            raise NoRow(put)
        table, row = self.table(), self.row[:place] + put + self.row[place + out:]
        old, new = OwnReading(self.grammar.rules, table, self.row), OwnReading(self.grammar.rules, table, row)
        self.last, self.row = own_looked(old, new, row, place, out, put), row
        return reading_text(Reading(table, row))

    def say_looked(self):
        return listed(self.last)

    def say_all(self, row):
        if tree_for(self.grammar, row) is None:
            return "none"
        many = "two" if two_trees(self.grammar, row) else "one"
        return f"{many} {tree_text(written(tree_for(self.grammar, row)))}"

    def say_on(self, row):
        told = goes_on(self.grammar, row)
        return "none" if told is None else str(len(told))

    def say_mend(self, put, out, row):
        return str(mend(self.grammar, row, dict.fromkeys(self.grammar.signs() + row, (put, out))).price())


def desk_of(text):
    """A desk that was told the grammar of a text."""
    desk = Desk()
    desk.say("grammar " + text.replace("\n", " # "))
    return desk


# Lines.

WORDS = sorted(FORMS)
GRAMMARS = TEXTS + PLAIN_TEXTS + (EMPTY, SUMS, DEAD, DEAD_AND_VAST, FORTY, FORTY_ONE, BARE_FORTY_ONE, "S : S a", "S : ~",
                                  "S : A B c | A\nA : a | ~\nB : b A | ~ | C1\nC1 : C1 c", "S : a\nB : b | S")
BAD_GRAMMARS = ("", "S", "S : a\n", "left +", "S : a | a", "S : A", "S : a b c d e", "S : a\nleft +", "left + +\nS : a",
                "S :  a", " S : a", "S : a ", "S : a #", "S : a #  # S : b")
NO_NUMBERS = ("", "00", "01", "12345", "10000", "+1", "-1", "1.0", "one", "a", "N", "\u0663", "\xb2", "1_0", "0x1", "1e1")


def some_row(text, chance):
    """A row for a grammar's text: one that is let by, one near to it, or another one."""
    rules = read_grammar(text).rules
    signs = signs_of(rules) + ["zz"]
    told = [row_of(tree) for tree in small_trees(rules, 9, 4)[rules[0][0]]]
    row = list(chance.choice(told)) if told and chance.random() < 0.8 else [chance.choice(signs) for turn in range(4)]
    if chance.random() < 0.4:
        place = chance.randint(0, len(row))
        row[place:place + chance.randint(0, 2)] = [chance.choice(signs) for turn in range(chance.randint(0, 2))]
    if chance.random() < 0.05:
        row = row + [chance.choice(signs)] * chance.choice((7, 10, 11, 40, 41))
    if chance.random() < 0.05:
        row.insert(chance.randint(0, len(row)), chance.choice(("", "S", "$", "aaaaaaa", "a_")))
    return row


def some_symbol(text, chance):
    rules = read_grammar(text).rules
    symbols = sorted({symbol for head, body in rules for symbol in (head,) + body})
    return chance.choice(symbols + [symbol for symbol in symbols if is_great(symbol)] + ["zz", "Z", "$", ""])


def good_line(text, chance):
    """A line of one of the forms, about a grammar's text; sometimes it is refused nevertheless."""
    word = chance.choice(WORDS + ["change", "change", "change", "read", "looked", "looked"])
    if word == "grammar":
        return "grammar " + chance.choice(GRAMMARS + BAD_GRAMMARS).replace("\n", " # ")
    if word in ("first", "behind"):
        return f"{word} {some_symbol(text, chance)}"
    told = [word]
    if word == "change":
        told += [str(chance.choice((0, 0, 1, 2, 3, 4, 40))), str(chance.choice((0, 0, 1, 1, 2)))]
        return " ".join(told + some_row(text, chance)[:chance.randint(0, 3)])
    if word == "mend":
        told += [str(chance.choice((1, 2, 3, 20, 0, 21))), str(chance.choice((1, 2, 5, 20, 20, 21)))]
    return " ".join(told + (some_row(text, chance) if FORMS[word] else []))


def spoilt_line(line, chance):
    """A line near to a good one, or another thing."""
    words = line.split(" ")
    place = chance.randint(0, len(words))
    told = [" " + line, line + " ", "", " ", line.upper(), words[0] + "s " + " ".join(words[1:]), words[0], line + " a",
            " ".join(words[:place] + [""] + words[place:]), " ".join(words[:place] + words[place + 1:]),
            " ".join(words[:1] + [chance.choice(NO_NUMBERS)] + words[2:]), f"{words[0]} 0 {chance.choice(NO_NUMBERS)}",
            None, 0, True, words, tuple(words), {line: line}, line.encode()]
    return chance.choice(told)
