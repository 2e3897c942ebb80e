"""Rows read by a table: sign by sign from the left, states lying on one another."""

from rulestable.tables import ACCEPT, need_decided
from rulestable.trees import tree_by
from rulestable.words import END_MARK, MOST_READ, need_row


def gone_back(table, pile, number):
    """Tell the pile without the states of a rule's body, and on it the state to which the rule's head leads."""
    grammar = table.grammar
    below = pile[:len(pile) - len(grammar.body_of(number))]
    return below + [table.to(below[-1], grammar.head_of(number))]


# A look tells what is done with one sign, or the end mark, ahead: a tuple of the list of the steps and of the pile that
# lies there then, None in its place where the sign is refused. The looks of a row stand in a list, place by place.


def look_at(table, pile, ahead):
    """Tell the look at a sign or the end mark, from a pile on."""
    steps = []
    entry = table.entry(pile[-1], ahead)
    while entry is not None and entry[0] == "reduce":
        steps.append(entry)
        pile = gone_back(table, pile, entry[1])
        entry = table.entry(pile[-1], ahead)
    if entry is not None and entry[0] == "shift":
        return (steps + [("shift", ahead)], pile + [entry[1]])
    return (steps, pile if entry == ACCEPT else None)


def pile_at(looks, place):
    """Tell the pile that lies there ahead of a place, None where the looks haven't come to it."""
    if place == 0:
        return [0]
    return looks[place - 1][1] if place <= len(looks) else None


def is_over(row, looks):
    """Tell whether no look at a row is left to do: all were done, or the last one was refused."""
    return len(looks) > len(row) or pile_at(looks, len(looks)) is None


def look_on(table, row, looks):
    """Put the look at the next place behind the others."""
    place = len(looks)
    ahead = row[place] if place < len(row) else END_MARK
    looks.append(look_at(table, pile_at(looks, place), ahead))


def looks_through(table, row):
    """Tell the looks at a row, up to the first refused one."""
    looks = []
    while not is_over(row, looks):
        look_on(table, row, looks)
    return looks


def steps_in(looks):
    """Tell all steps of the looks, in their order."""
    told = []
    for look in looks:
        told.extend(look[0])
    return told


def can_take(table, pile, ahead):
    """Tell whether a sign or the end mark would be taken from a pile on."""
    return look_at(table, pile, ahead)[1] is not None


def takable(table, pile):
    """Tell which of the grammar's signs and the end mark would be taken from a pile on, rising."""
    aheads = sorted(table.grammar.signs() + [END_MARK])
    return [ahead for ahead in aheads if can_take(table, pile, ahead)]


class Reading:
    """A row, and what is done where it is read by a table."""

    def __init__(self, table, row):
        need_decided(table)
        need_row(row, MOST_READ)
        self.table = table
        self.row = list(row)
        self.looks = looks_through(table, self.row)
        self.tree = self.grown_tree()

    def grown_tree(self):
        """Tell the tree that the steps make, None of a refused row."""
        return tree_by(self.table.grammar, self.steps()) if self.where() is None else None

    def word(self):
        """Tell whether the row was read or refused."""
        return "read" if self.where() is None else "refused"

    def steps(self):
        """Tell all that was done, in its order."""
        return steps_in(self.looks)

    def made(self):
        """Tell the tree of a row that was read, or None."""
        return self.tree

    def stacks(self):
        """Tell the states on one another, at first and behind each sign that was taken."""
        # Behind the end mark no stack is told, though it is taken where the row is read.
        piles = [pile_at(self.looks, place) for place in range(len(self.row) + 1)]
        return [list(pile) for pile in piles if pile is not None]

    def where(self):
        """Tell the place of the sign, or of the end mark, that was refused, or None."""
        last = len(self.looks) - 1
        return last if self.looks[last][1] is None else None

    def expected(self):
        """Tell what could stand where the row was refused, rising."""
        place = self.where()
        return [] if place is None else takable(self.table, pile_at(self.looks, place))
