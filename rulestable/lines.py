"""The forms of the lines that a desk is told, and of its answers."""

from rulestable.errors import NoLine
from rulestable.words import has_only

FIGURES = "0123456789"
LONGEST_NUMBER = 4
NOTHING = "none"
ROW_BREAK = " # "
# By the first word of a line: how many numbers stand behind it, how many words at least behind these, and whether more
# may.
FORMS = {
    "grammar": (0, 1, True),
    "show": (0, 0, False),
    "heads": (0, 0, False),
    "signs": (0, 0, False),
    "empty": (0, 0, False),
    "live": (0, 0, False),
    "first": (0, 1, False),
    "behind": (0, 1, False),
    "table": (0, 0, False),
    "laid": (0, 0, False),
    "read": (0, 0, True),
    "quick": (0, 0, True),
    "change": (2, 0, True),
    "looked": (0, 0, False),
    "all": (0, 0, True),
    "on": (0, 0, True),
    "mend": (2, 0, True),
}


def is_number(word):
    """Tell whether the word is a number as lines have it."""
    if not 1 <= len(word) <= LONGEST_NUMBER or not has_only(word, FIGURES):
        return False
    return len(word) == 1 or word[0] != "0"


def has_form(words, form):
    """Tell whether the words behind the first one of a line are those of a form."""
    least = form[0] + form[1]
    if len(words) < least or (len(words) > least and not form[2]):
        return False
    return all([is_number(word) for word in words[:form[0]]])


def asked_by(line):
    """Tell the first word of a line, the numbers behind it, and the words behind these; refuse what is no line."""
    if not isinstance(line, str):
        raise NoLine(line)
    words = line.split(" ")
    if words[0] not in FORMS or not has_form(words[1:], FORMS[words[0]]):
        raise NoLine(line)
    behind = 1 + FORMS[words[0]][0]
    return (words[0], [int(word) for word in words[1:behind]], words[behind:])


def text_in(words):
    """Tell the text that the words behind the first one of a line tell, with its rows."""
    return " ".join(words).replace(ROW_BREAK, "\n")


def in_one_line(text):
    """Tell a text of several rows as one line."""
    return text.replace("\n", ROW_BREAK)


def in_words(things):
    """Tell words and numbers one behind the other, or that there are none."""
    return " ".join([str(thing) for thing in things]) if len(things) > 0 else NOTHING
