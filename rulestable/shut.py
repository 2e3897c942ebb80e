"""Sets that are shut: by them anybody can see that what a book of a grammar doesn't tell isn't there."""

from rulestable.books import open_places, size_by
from rulestable.words import END_MARK, is_head


def are_heads(grammar, things):
    """Tell whether each of the things is a head of the grammar."""
    known = grammar.heads()
    return all([is_head(thing) and thing in known for thing in things])


def has_one(body, heads):
    """Tell whether one of the heads stands in the body."""
    return any([symbol in heads for symbol in body])


def has_only_those(body, heads):
    """Tell whether nothing but these heads stands in the body."""
    return all([symbol in heads for symbol in body])


def has_all(told, needed):
    """Tell whether all that is needed is in the list that is told."""
    return all([sign in told for sign in needed])


def is_barren_set(grammar, heads):
    """Tell whether each rule of one of these heads has one of them in its body."""
    if not are_heads(grammar, heads):
        return False
    return all([has_one(body, heads) for head, body in grammar.rules if head in heads])


def is_shut_empty(grammar, heads):
    """Tell whether each rule in whose body nothing but these heads stands is one of theirs."""
    if not are_heads(grammar, heads):
        return False
    return all([head in heads for head, body in grammar.rules if has_only_those(body, heads)])


def are_least(grammar, numbers):
    """Tell whether no rule makes a tree of its head that is smaller than the head's number."""
    if not are_heads(grammar, list(numbers)):
        return False
    for head, body in grammar.rules:
        size = size_by(body, numbers)
        if size is not None and (head not in numbers or numbers[head] > size):
            return False
    return True


def rules_without(grammar, barren):
    """Tell the rules that have none of these heads in their bodies."""
    return [rule for rule in grammar.rules if not has_one(rule[1], barren)]


def has_own_lists(grammar, starts):
    """Tell whether all symbols of the grammar have lists, and each sign itself in its own."""
    if not has_all(starts, grammar.heads() + grammar.signs()):
        return False
    return all([sign in starts[sign] for sign in grammar.signs()])


def is_shut_firsts(grammar, barren, empty, starts):
    """Tell whether the lists of what comes first have all that the rules put into them."""
    if not is_barren_set(grammar, barren) or not is_shut_empty(grammar, empty) or not has_own_lists(grammar, starts):
        return False
    for head, body in rules_without(grammar, barren):
        # The last open place may be the body's end, at which no symbol stands.
        for symbol in body[:open_places(body, 0, empty)[-1] + 1]:
            if not has_all(starts[head], starts[symbol]):
                return False
    return True


def needed_behind(rule, place, empty, starts, ends):
    """Tell all that the rule puts behind the symbol at a place of its body."""
    body = rule[1]
    needed = []
    for behind in open_places(body, place + 1, empty):
        needed.extend(ends[rule[0]] if behind == len(body) else starts[body[behind]])
    return needed


def is_shut_follows(grammar, barren, empty, starts, ends):
    """Tell whether the lists of what comes behind have all that the rules put into them."""
    # Firsts that aren't shut would leave out what comes behind, so nothing could be shown by them.
    if not is_shut_firsts(grammar, barren, empty, starts) or not are_heads(grammar, list(ends)):
        return False
    if grammar.start not in barren and END_MARK not in ends.get(grammar.start, []):
        return False
    for rule in rules_without(grammar, barren):
        places = [place for place, symbol in enumerate(rule[1]) if is_head(symbol)] if rule[0] in ends else []
        for place in places:
            needed = needed_behind(rule, place, empty, starts, ends)
            if rule[1][place] not in ends or not has_all(ends[rule[1][place]], needed):
                return False
    return True
