"""The texts of grammars: read, and shown."""

from rulestable.errors import NoText
from rulestable.grammar import Grammar, is_side
from rulestable.words import is_head, is_sign, is_symbol

IS = ":"
OR = "|"
EMPTY = "~"


def bodies_in(words):
    """Cut the words behind a head into bodies, lists of words."""
    bodies = [[]]
    for word in words:
        if word == OR:
            bodies.append([])
        else:
            bodies[-1].append(word)
    return bodies


def has_body_form(words):
    """Tell whether the words are those of one body."""
    return words == [EMPTY] or (len(words) > 0 and all([is_symbol(word) for word in words]))


def has_rules_form(words):
    """Tell whether the words are those of a row of rules."""
    if len(words) < 2 or not is_head(words[0]) or words[1] != IS:
        return False
    return all([has_body_form(body) for body in bodies_in(words[2:])])


def has_rank_form(words):
    """Tell whether the words are those of a row of ranks."""
    return len(words) > 1 and is_side(words[0]) and all([is_sign(word) for word in words[1:]])


def body_by(words):
    """Tell the body that the words of one body tell."""
    return () if words == [EMPTY] else tuple(words)


def read_grammar(text):
    """Tell the grammar that a text tells."""
    if not isinstance(text, str):
        raise NoText(0)
    rules = []
    ranks = []
    for line, row in enumerate(text.split("\n")):
        words = row.split(" ")
        if has_rules_form(words):
            rules.extend([(words[0], body_by(body)) for body in bodies_in(words[2:])])
        elif len(rules) == 0 and has_rank_form(words):
            ranks.append((words[0], tuple(words[1:])))
        else:
            raise NoText(line)
    return Grammar(rules, ranks)


def body_text(body):
    """Tell the words of a body as a text."""
    return EMPTY if len(body) == 0 else " ".join(body)


def show_grammar(grammar):
    """Tell the text that tells the grammar, with one row for each run of rules of one head."""
    rows = [" ".join((side,) + signs) for side, signs in grammar.ranks]
    before = None
    for head, body in grammar.rules:
        if head == before:
            rows[-1] = rows[-1] + f" {OR} " + body_text(body)
        else:
            rows.append(f"{head} {IS} " + body_text(body))
        before = head
    return "\n".join(rows)
