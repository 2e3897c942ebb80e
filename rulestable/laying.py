"""Tables laid together: states of one core become one group where this harms nothing."""

from rulestable.errors import NoState
from rulestable.items import core_of
from rulestable.tables import need_decided
from rulestable.words import END_MARK, is_whole


def agree(one, other):
    """Tell whether two entries of a table agree."""
    if one is None or other is None or one == other:
        return True
    return one[0] == "shift" and other[0] == "shift"


def states_by_core(states):
    """Tell lists of all states of one core, each rising."""
    told = {}
    for state in range(states.many()):
        core = tuple(core_of(list(states.items(state))))
        told.setdefault(core, []).append(state)
    return list(told.values())


def quarrels_among(table, numbers):
    """Tell which two of these rising states don't agree, and for what is ahead."""
    aheads = table.grammar.signs() + [END_MARK]
    told = []
    for place, state in enumerate(numbers):
        for other in numbers[place + 1:]:
            told.extend([(state, other, ahead) for ahead in aheads
                         if not agree(table.entry(state, ahead), table.entry(other, ahead))])
    return told


def group_by_state(groups):
    """Tell for each state the number of its group."""
    told = {}
    for number, group in enumerate(groups):
        for state in group:
            told[state] = number
    return told


def parted(states, groups):
    """Tell the groups parted, so that those states stay together which all symbols lead to the same groups."""
    found = group_by_state(groups)
    symbols = states.grammar.heads() + states.grammar.signs()
    told = {}
    for number, group in enumerate(groups):
        for state in group:
            goals = tuple([found.get(states.leads.get((state, symbol))) for symbol in symbols])
            told.setdefault((number, goals), []).append(state)
    return list(told.values())


def parted_to_the_end(states, groups):
    """Tell the groups as they are when no turn parts one of them any more, by their least states."""
    before = []
    while len(before) < len(groups):
        before = groups
        groups = parted(states, before)
    return sorted(groups)


class Laid:
    """A table asked by groups of states."""

    def __init__(self, table):
        need_decided(table)
        self.grammar = table.grammar
        self.table = table
        self.quarrels = []
        together = []
        for numbers in states_by_core(table.states):
            found = quarrels_among(table, numbers)
            self.quarrels.extend(found)
            together.extend([numbers] if len(found) == 0 else [[state] for state in numbers])
        self.parts = parted_to_the_end(table.states, together)
        self.part_of = group_by_state(self.parts)

    def need_group(self, group):
        """Refuse what is no number of a group."""
        if not is_whole(group) or not 0 <= group < len(self.parts):
            raise NoState(group)

    def groups(self):
        """Tell the states of each group."""
        return [list(part) for part in self.parts]

    def kept_apart(self):
        """Tell which states of one core don't agree, and for what is ahead."""
        return sorted(self.quarrels)

    def many(self):
        """Tell how many groups there are."""
        return len(self.parts)

    def entry(self, group, ahead):
        """Tell what is done in a group with this ahead, or None."""
        self.need_group(group)
        for state in self.parts[group]:
            entry = self.table.entry(state, ahead)
            if entry is not None:
                return ("shift", self.part_of[entry[1]]) if entry[0] == "shift" else entry
        return None

    def to(self, group, head):
        """Tell the group to which a head leads from a group, or None."""
        self.need_group(group)
        # The states of a group are of one core, and each head leads all of them to one group or none of them anywhere.
        return self.part_of.get(self.table.to(self.parts[group][0], head))

    def open_ones(self):
        """Tell that there are no open choices."""
        return []
