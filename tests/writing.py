"""The tests' own readers of grammars' texts, by patterns, and texts to read."""

import random
import re

from tests.growing import some_grammars
from tests.refusing import outcome

SIGN = r"[a-z0-9+\-*/()\[\]=<>,;.!?^&]{1,6}"
HEAD = r"[A-Z][a-z0-9]{0,5}"
BODY = f"(?:~|(?:{SIGN}|{HEAD})(?: (?:{SIGN}|{HEAD}))*)"
RULES_ROW = re.compile(rf"(?P<head>{HEAD}) : {BODY}(?: \| {BODY})*\Z")
RANK_ROW = re.compile(rf"(?:left|right|none)(?: {SIGN})+\Z")


def by_patterns(text):
    """What a text tells, found by patterns: the number of a bad row, or rules and ranks."""
    rules, ranks = [], []
    for line, row in enumerate(text.split("\n")):
        if RULES_ROW.match(row):
            head, bodies = row.split(" : ")
            for body in bodies.split(" | "):
                rules.append((head, () if body == "~" else tuple(body.split(" "))))
        elif RANK_ROW.match(row) and not rules:
            side, signs = row.split(" ", 1)
            ranks.append((side, tuple(signs.split(" "))))
        else:
            return line
    return rules, ranks


def grammar_told(ask, *told):
    """The rules, ranks and start of the grammar that is told, or how it is refused."""
    found = outcome(ask, *told)
    return found if found[0] != "told" else (found[1].rules, found[1].ranks, found[1].start)


# The kinds of words [131], and rows that have the form of a row [132].

KINDS = (("head", HEAD), ("sign", SIGN), ("is", ":"), ("or", r"\|"), ("empty", "~"), ("bad", ".*"))
KINDS_ROW = re.compile(r"side( sign)+|head is (empty|(head|sign)( (head|sign))*)( or (empty|(head|sign)( (head|sign))*))*")


def own_kinds(row):
    """The kinds of a row's words, by patterns."""
    words = row.split(" ")
    told = [next(kind for kind, pattern in KINDS if re.fullmatch(pattern, word, re.DOTALL)) for word in words]
    return (["side"] if words[0] in ("left", "right", "none") else told[:1]) + told[1:]


def has_own_form(kinds):
    return KINDS_ROW.fullmatch(" ".join(kinds)) is not None


# Texts.

def text_of(rules, ranks, chance):
    """A text of these rules and ranks, with several rows for some heads, one behind the other."""
    rows = [" ".join((side,) + signs) for side, signs in ranks]
    before = None
    for head, body in rules:
        told = " ".join(body) if body else "~"
        if head == before and chance.random() < 0.7:
            rows[-1] += " | " + told
        else:
            rows.append(f"{head} : {told}")
        before = head
    return "\n".join(rows)


def some_texts(count, seed):
    """Texts of so many grammars."""
    chance = random.Random(seed)
    return [text_of(grammar.rules, grammar.ranks, chance) for grammar in some_grammars(count, seed)]


def spoilt_texts(text, place):
    """Texts that differ from this one at one place."""
    told = [text[:place] + text[place + 1:]]
    for part in (" ", "\n", ":", "|", "~", "a", "E", "$", "left", " | ", " : ", "\nleft zz", "\nZ : a", " zz "):
        told += [text[:place] + part + text[place:], text[:place] + part + text[place + 1:]]
    return told
