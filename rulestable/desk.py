"""A desk: it is told lines about a grammar, and answers each of them with a text."""

from rulestable.anew import Anew
from rulestable.books import empty_heads, first_signs, follow_signs, live
from rulestable.chart import goes_on, tree_for, two_trees
from rulestable.errors import NoLine, NoSymbol
from rulestable.grammartext import read_grammar, show_grammar
from rulestable.laying import Laid
from rulestable.lines import NOTHING, asked_by, in_one_line, in_words, text_in
from rulestable.mending import mend
from rulestable.reader import Reading
from rulestable.states import States
from rulestable.tables import Table
from rulestable.treetext import show_tree


class Shelf:
    """A grammar that a desk was told, and what was made of it since then."""

    def __init__(self, grammar):
        self.grammar = grammar
        self.table = None
        self.laid = None
        self.reading = None

    def get_table(self):
        """Tell the table of the grammar, with ranks."""
        # Made when a line asks for it: there are grammars without a table, and of them all other lines are answered.
        if self.table is None:
            self.table = Table(States(self.grammar))
        return self.table

    def get_laid(self):
        """Tell the table that is laid together."""
        if self.laid is None:
            self.laid = Laid(self.get_table())
        return self.laid


# An answer is made of a shelf, and of the numbers and the words that the line tells behind its first word.


def answer_show(shelf, numbers, words):
    """Answer with the grammar's text."""
    return in_one_line(show_grammar(shelf.grammar))


def answer_heads(shelf, numbers, words):
    """Answer with the grammar's heads."""
    return in_words(shelf.grammar.heads())


def answer_signs(shelf, numbers, words):
    """Answer with the grammar's signs."""
    return in_words(shelf.grammar.signs())


def answer_empty(shelf, numbers, words):
    """Answer with the heads that may be empty."""
    return in_words(empty_heads(shelf.grammar))


def answer_live(shelf, numbers, words):
    """Answer with the numbers of the live rules."""
    return in_words(live(shelf.grammar))


def in_book(book, word):
    """Tell the list that a book has for a word; refuse a word for which it has none."""
    if word not in book:
        raise NoSymbol(word)
    return in_words(book[word])


def answer_first(shelf, numbers, words):
    """Answer with the signs that may come first in a symbol."""
    return in_book(first_signs(shelf.grammar), words[0])


def answer_behind(shelf, numbers, words):
    """Answer with what may come behind a head."""
    return in_book(follow_signs(shelf.grammar), words[0])


def answer_table(shelf, numbers, words):
    """Answer with how many states, conflicts, decided ones and open choices there are."""
    table = shelf.get_table()
    return in_words([table.many(), len(table.conflicts()), len(table.decided()), len(table.open_ones())])


def answer_laid(shelf, numbers, words):
    """Answer with how many groups there are."""
    return in_words([shelf.get_laid().many()])


def reading_told(reading):
    """Tell the tree of a reading, or where its row was refused and what could stand there."""
    if reading.word() == "read":
        return in_words(["read", show_tree(reading.made())])
    return in_words(["refused", reading.where(), ":", in_words(reading.expected())])


def answer_read(shelf, numbers, words):
    """Read a row by the table, and keep the reading for changes."""
    shelf.reading = Anew(shelf.get_table(), words)
    return reading_told(shelf.reading)


def answer_quick(shelf, numbers, words):
    """Read a row by the table that is laid together."""
    return reading_told(Reading(shelf.get_laid(), words))


def answer_change(shelf, numbers, words):
    """Change the row that was read last, and read it anew."""
    shelf.reading.change(numbers[0], numbers[1], words)
    return reading_told(shelf.reading)


def answer_looked(shelf, numbers, words):
    """Answer with the places that were looked at last."""
    return in_words(shelf.reading.looked())


def answer_all(shelf, numbers, words):
    """Answer with whether a row has no tree, one, or two, and with a smallest one."""
    tree = tree_for(shelf.grammar, words)
    if tree is None:
        return NOTHING
    many = "one" if two_trees(shelf.grammar, words) is None else "two"
    return in_words([many, show_tree(tree)])


def answer_on(shelf, numbers, words):
    """Answer with how many signs are wanting behind a row."""
    tail = goes_on(shelf.grammar, words)
    return NOTHING if tail is None else in_words([len(tail)])


def answer_mend(shelf, numbers, words):
    """Answer with the least price of mending a row, each sign having the same prices."""
    prices = {}
    for sign in shelf.grammar.signs() + words:
        prices[sign] = (numbers[0], numbers[1])
    return in_words([mend(shelf.grammar, words, prices).price()])


ANSWERS = {
    "show": answer_show,
    "heads": answer_heads,
    "signs": answer_signs,
    "empty": answer_empty,
    "live": answer_live,
    "first": answer_first,
    "behind": answer_behind,
    "table": answer_table,
    "laid": answer_laid,
    "read": answer_read,
    "quick": answer_quick,
    "change": answer_change,
    "looked": answer_looked,
    "all": answer_all,
    "on": answer_on,
    "mend": answer_mend,
}
NEED_A_READING = ("change", "looked")


class Desk:
    """Is told lines, and answers or refuses them."""

    def __init__(self):
        self.shelf = None

    def say(self, line):
        """Answer a line."""
        asked = asked_by(line)
        word = asked[0]
        if word == "grammar":
            self.shelf = Shelf(read_grammar(text_in(asked[2])))
            return "ok"
        if self.shelf is None or (word in NEED_A_READING and self.shelf.reading is None):
            raise NoLine(line)
        return ANSWERS[word](self.shelf, asked[1], asked[2])
