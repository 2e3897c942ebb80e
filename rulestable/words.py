"""The kinds of words: whole numbers, signs, heads, symbols and rows."""

from rulestable.errors import NoRow

GREAT = "ABCDEFGHIJKLMNOPQRSTUVWXYZ"
SMALL_AND_FIGURES = "abcdefghijklmnopqrstuvwxyz0123456789"
IN_SIGNS = "abcdefghijklmnopqrstuvwxyz0123456789+-*/()[]=<>,;.!?^&"
LONGEST = 6
MOST_READ = 40
END_MARK = "$"


def is_whole(thing):
    """Tell whether the thing is an int that is no truth."""
    return isinstance(thing, int) and not isinstance(thing, bool)


def is_short_text(thing):
    """Tell whether the thing is a text as long as signs and heads may be."""
    return isinstance(thing, str) and 1 <= len(thing) <= LONGEST


def has_only(text, allowed):
    """Tell whether each character of the text is an allowed one."""
    return all([mark in allowed for mark in text])


def is_sign(thing):
    """Tell whether the thing is a sign."""
    return is_short_text(thing) and has_only(thing, IN_SIGNS)


def is_head(thing):
    """Tell whether the thing is a head."""
    return is_short_text(thing) and thing[0] in GREAT and has_only(thing[1:], SMALL_AND_FIGURES)


def is_symbol(thing):
    """Tell whether the thing is a sign or a head."""
    return is_sign(thing) or is_head(thing)


def is_row(thing, most):
    """Tell whether the thing is a list of at most so many signs."""
    return isinstance(thing, list) and len(thing) <= most and all([is_sign(sign) for sign in thing])


def need_row(thing, most):
    """Refuse what is no list of at most so many signs."""
    if not is_row(thing, most):
        raise NoRow(thing)
