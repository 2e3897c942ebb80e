"""Papers for conflicts: for each thing that may be done a tree by which it is right, all with one beginning."""

from rulestable.books import grown
from rulestable.errors import NoItem, NoPlace
from rulestable.states import paper_for
from rulestable.tables import conflicts_in, done_by
from rulestable.trees import behind_of, is_rule_number, is_step, is_tree, trees_in_cut
from rulestable.words import END_MARK, is_sign, is_symbol, is_whole


def find_conflict(states, thing):
    """Tell the conflict to which the thing is equal; refuse what is equal to none."""
    for state in range(states.many()):
        # A tuple is equal to no conflict of a state with whose number it doesn't begin, so these are passed over.
        if not isinstance(thing, tuple) or thing[:1] == (state,):
            for conflict in conflicts_in(states, state):
                if conflict == thing:
                    return conflict
    raise NoItem(thing)


def ground_for(states, conflict, entry):
    """Tell a tree of the start, a path and a dot by which the entry is right."""
    state = conflict[0]
    fitting = [item for item in states.items(state) if done_by(states, state, item) == (conflict[1], entry)]
    paper = paper_for(states, state, fitting[0])
    return paper + (None if paper[1] is None else fitting[0][1],)


def leaf_signs(trees):
    """Tell the yields of trees, one behind the other."""
    told = []
    for tree in trees:
        told.extend(tree.signs())
    return told


def conflict_paper(states, conflict):
    """Tell a paper for a conflict: the state's way, a row for it, and for each entry a ground."""
    known = find_conflict(states, conflict)
    way = states.way(known[0])
    row = leaf_signs([grown(symbol, states.fruit) for symbol in way])
    return (way, row, tuple([ground_for(states, known, entry) for entry in known[2]]))


def is_tuple_of(thing, length):
    """Tell whether the thing is a tuple of so many things."""
    return isinstance(thing, tuple) and len(thing) == length


def is_accept(thing):
    """Tell whether the thing is the entry to accept."""
    return is_tuple_of(thing, 1) and isinstance(thing[0], str) and thing[0] == "accept"


def is_shift(thing):
    """Tell whether the thing is an entry to shift, to whatever state."""
    return is_step(thing, "shift") and is_whole(thing[1])


def is_reduce(grammar, thing):
    """Tell whether the thing is an entry to reduce by a rule."""
    return is_step(thing, "reduce") and is_rule_number(grammar, thing[1])


def are_entries(grammar, things):
    """Tell whether the things are entries of one conflict, as far as can be seen without a paper."""
    if not isinstance(things, tuple) or len(things) < 2:
        return False
    if not all([is_accept(thing) or is_shift(thing) or is_reduce(grammar, thing) for thing in things]):
        return False
    return len(set(things)) == len(things) and len([thing for thing in things if is_shift(thing)]) <= 1


def has_paper_form(thing, many):
    """Tell whether the thing is a way, a row and a tuple of so many grounds, as far as can be seen without a tree."""
    if not is_tuple_of(thing, 3) or not isinstance(thing[0], list) or not isinstance(thing[1], list):
        return False
    if not all([is_symbol(symbol) for symbol in thing[0]]) or not all([is_sign(sign) for sign in thing[1]]):
        return False
    return is_tuple_of(thing[2], many) and all([is_tuple_of(ground, 3) for ground in thing[2]])


def has_beginning(grammar, paper, ground):
    """Tell whether the ground's path and dot are a place in its tree with the paper's way and row to the left."""
    try:
        trees = trees_in_cut(ground[0], ground[1], ground[2])
    except NoPlace:
        return False
    return [tree.symbol_in(grammar) for tree in trees] == paper[0] and leaf_signs(trees) == paper[1]


def is_ground(grammar, ahead, entry, paper, ground):
    """Tell whether by the ground the entry is right with this ahead, behind the beginning that the paper tells."""
    tree = ground[0]
    if not is_tree(grammar, grammar.start, tree):
        return False
    if is_accept(entry):
        ends = ahead == END_MARK and ground[1] is None and ground[2] is None
        return ends and paper[0] == [grammar.start] and paper[1] == tree.signs()
    if not has_beginning(grammar, paper, ground):
        return False
    node = tree.at(ground[1])
    behind = node.children[ground[2]:]
    if is_shift(entry):
        return len(behind) > 0 and behind[0].is_leaf() and behind[0].sign == ahead
    return len(behind) == 0 and node.number == entry[1] and behind_of(tree, ground[1]) == ahead


def is_conflict(grammar, ahead, entries, paper):
    """Tell whether the paper shows that with this ahead all of the entries are right ways to go on."""
    # A thing of another kind may call itself equal to a text, so its kind is looked at first.
    if not isinstance(ahead, str) or not are_entries(grammar, entries) or not has_paper_form(paper, len(entries)):
        return False
    return all([is_ground(grammar, ahead, entry, paper, ground) for entry, ground in zip(entries, paper[2])])
