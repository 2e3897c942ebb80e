"""Texts of grammars that several tests ask about, and grammars that are small, or clean and small."""

from rulestable.books import need_clean, need_small
from rulestable.errors import TableError
from tests.growing import some_grammars

SUMS = "E : E + E | ( E ) | n"
TERMS = "E : E + T | T\nT : T * F | F\nF : ( E ) | n | f ( L )\nL : ~ | L , E | E"
# The rules 0 to 5; A and B may be empty.
EMPTY = "S : A B c | A\nA : a | ~\nB : b A | ~"
# A has a least size of 21, B of 5, C of 8; S has one of 40, or with the sign more one of 41.
FORTY = "S : A B B C\nA : B B B B\nB : b b b b\nC : B c c"
FORTY_ONE = FORTY + " c"
# S has small trees; of those without leaves the smallest has a size of 40, or with one head more of 41.
BARE_FORTY = "S : A D D | a\nA : B C C C\nB : C C C C\nC : D D D D\nD : ~"
BARE_FORTY_ONE = "S : A D D D | a\nA : B C C C\nB : C C C C\nC : D D D D\nD : ~"
# The rule 1 is not live.
DEAD = "S : a | S B | b\nB : B b"
# The rule 1 is not live, and A is vast.
DEAD_AND_VAST = "S : A\nD : a\nA : B B B\nB : C C C C\nC : c c c c"
# Just 300 states, and just 301.
THREE_HUNDRED = """S : G C
A : a e b g | g h H
B : h F g i | H G g | a F j | h G
C : D h | e j g A | H A B
D : e A F | e j
F : g | H h
G : i | h S D | a g f
H : j a h G | B h D e"""
ONE_MORE = """S : d | g B e d
A : d | S g | e a S g | f C c C | b A | A g f g
B : f c f | B | A C | e | g S g A
C : A B b b | f | f b | g S g S | b c B | e e | A d"""


def is_let_by(need, grammar):
    try:
        need(grammar)
    except TableError:
        return False
    return True


def small_grammars(count, seed):
    """Those of so many grammars that are not vast."""
    return [grammar for grammar in some_grammars(count, seed) if is_let_by(need_small, grammar)]


def clean_grammars(count, seed):
    """Those of so many grammars that are clean and not vast."""
    return [grammar for grammar in some_grammars(count, seed) if is_let_by(need_clean, grammar)]
