"""The text of a grammar, read by a table of this package: the grammar of its rows, and what their trees tell."""

from rulestable.errors import NoText
from rulestable.grammar import Grammar, is_side
from rulestable.reader import looks_through, steps_in
from rulestable.states import States
from rulestable.tables import Table
from rulestable.words import is_head, is_sign

KIND_BY_MARK = {":": "is", "|": "or", "~": "empty"}


def kind_of(word):
    """Tell the kind of a word that is not the first one of its row."""
    if is_head(word):
        return "head"
    return "sign" if is_sign(word) else KIND_BY_MARK.get(word, "bad")


def kinds_of(row):
    """Tell the kinds of the words of a row."""
    words = row.split(" ")
    first = "side" if is_side(words[0]) else kind_of(words[0])
    return [first] + [kind_of(word) for word in words[1:]]


# What a tree tells is made of what its children tell, in their order; a leaf tells its word.


def first_one(parts):
    """Tell what the only child tells."""
    return parts[0]


def alone(parts):
    """Begin a tuple."""
    return (parts[0],)


def one_more(parts):
    """Put what the last child tells behind the tuple of the first one."""
    return parts[0] + (parts[-1],)


def no_symbols(parts):
    """Tell a body without symbols."""
    return ()


def rank_told(parts):
    """Tell a rank: the side, and the tuple of its signs."""
    return (parts[0], parts[1])


def rules_told(parts):
    """Tell rules: the head, with each of its bodies."""
    return tuple([(parts[0], body) for body in parts[2]])


def rank_row(parts):
    """Tell the ranks and the rules of a row of ranks."""
    return (alone(parts), ())


def rule_row(parts):
    """Tell the ranks and the rules of a row of rules."""
    return ((), parts[0])


# The rules of the own grammar, each with what its trees tell.
OWN_RULES = (
    (("Row", ("Rank",)), rank_row),
    (("Row", ("Rule",)), rule_row),
    (("Rank", ("side", "Signs")), rank_told),
    (("Signs", ("Signs", "sign")), one_more),
    (("Signs", ("sign",)), alone),
    (("Rule", ("head", "is", "Bodies")), rules_told),
    (("Bodies", ("Bodies", "or", "Body")), one_more),
    (("Bodies", ("Body",)), alone),
    (("Body", ("empty",)), no_symbols),
    (("Body", ("Things",)), first_one),
    (("Things", ("Things", "Thing")), one_more),
    (("Things", ("Thing",)), alone),
    (("Thing", ("head",)), first_one),
    (("Thing", ("sign",)), first_one),
)


def own_grammar():
    """Tell the grammar of the kinds of a row."""
    return Grammar([rule for rule, tell in OWN_RULES])


def own_table():
    """Tell the table, kept apart, of the own grammar."""
    return Table(States(own_grammar()))


def told_along(words, steps):
    """Tell what a tree tells, by the steps by which it is read and the words in the place of its leaves."""
    waiting = list(reversed(words))
    values = []
    for word, told in steps:
        if word == "shift":
            values.append(waiting.pop())
        else:
            rule = OWN_RULES[told][0]
            tell = OWN_RULES[told][1]
            below = len(values) - len(rule[1])
            values = values[:below] + [tell(values[below:])]
    return values[0]


def told_by_row(table, row):
    """Tell the ranks and the rules of a row of a text, or None where its kinds are not read."""
    # Not by a Reading, which refuses rows of more than forty signs: a row of many bodies has more words.
    looks = looks_through(table, kinds_of(row))
    return None if looks[-1][1] is None else told_along(row.split(" "), steps_in(looks))


def read_by_table(table, text):
    """Tell the grammar that a text tells, its rows read by the own table, or by what is laid together of it."""
    if not isinstance(text, str):
        raise NoText(0)
    ranks = []
    rules = []
    for line, row in enumerate(text.split("\n")):
        told = told_by_row(table, row)
        if told is None or (len(told[0]) > 0 and len(rules) > 0):
            raise NoText(line)
        ranks.extend(told[0])
        rules.extend(told[1])
    return Grammar(rules, ranks)
