"""Tables: what is done in a state with a sign or the end mark ahead, and what ranks decide where there is a choice."""

from rulestable.errors import Open
from rulestable.items import OWN_NUMBER, symbol_behind
from rulestable.words import is_head

ACCEPT = ("accept",)
STOP = ("stop",)
UNDECIDED = ("open",)
WORD_BY_SIDE = {"left": "reduce", "right": "shift", "none": "stop"}


def done_by(states, state, item):
    """Tell what has to be ahead and what may be done then by an item of a state, None where it waits for a head."""
    symbol = symbol_behind(states.grammar, item)
    if symbol is None:
        return (item[2], ACCEPT if item[0] == OWN_NUMBER else ("reduce", item[0]))
    if is_head(symbol):
        return None
    return (symbol, ("shift", states.leads[(state, symbol)]))


def entries_in(states, state):
    """Tell for each sign or end mark with which something may be done in a state all of it, both rising."""
    found = {}
    for item in states.items(state):
        done = done_by(states, state, item)
        if done is not None:
            found.setdefault(done[0], []).append(done[1])
    told = {}
    for ahead in sorted(found):
        told[ahead] = tuple(sorted(set(found[ahead])))
    return told


def conflicts_in(states, state):
    """Tell the conflicts of a state."""
    entries = entries_in(states, state)
    return [(state, ahead, entries[ahead]) for ahead in entries if len(entries[ahead]) > 1]


def word_by_ranks(grammar, ahead, number):
    """Tell what ranks decide between a shift of a sign and a reduce by a rule, None where they decide nothing."""
    of_sign = grammar.rank_of(ahead)
    of_rule = grammar.rank_by(number)
    if of_sign is None or of_rule is None:
        return None
    if of_sign == of_rule:
        return WORD_BY_SIDE[grammar.side_at(of_sign)]
    return "shift" if of_sign > of_rule else "reduce"


def word_for(grammar, conflict):
    """Tell what ranks decide in a conflict, None where they decide nothing."""
    # The entries rise, so of a shift and one reduce the reduce comes first.
    if [entry[0] for entry in conflict[2]] != ["reduce", "shift"]:
        return None
    return word_by_ranks(grammar, conflict[1], conflict[2][0][1])


class Table:
    """What is done in the states of a grammar."""

    def __init__(self, states, ranked=True):
        self.grammar = states.grammar
        self.states = states
        self.doings = {}
        self.choices = []
        self.settled = []
        self.unsettled = []
        for state in range(states.many()):
            for ahead, entries in entries_in(states, state).items():
                self.doings[(state, ahead)] = entries[0]
                if len(entries) > 1:
                    self.add_conflict((state, ahead, entries), ranked)

    def add_conflict(self, conflict, ranked):
        """Put a conflict behind the others, and decide it, if ranks do."""
        place = (conflict[0], conflict[1])
        entries = conflict[2]
        word = word_for(self.grammar, conflict) if ranked else None
        self.choices.append(conflict)
        if word is None:
            self.unsettled.append(place)
            self.doings[place] = UNDECIDED
        else:
            self.settled.append(place + (entries[0][1], word))
            self.doings[place] = ([entry for entry in entries if entry[0] == word] + [STOP])[0]

    def many(self):
        """Tell how many states there are."""
        return self.states.many()

    def conflicts(self):
        """Tell where more than one thing may be done."""
        return list(self.choices)

    def decided(self):
        """Tell the conflicts that ranks decide, and how."""
        return list(self.settled)

    def open_ones(self):
        """Tell the conflicts that nothing decides."""
        return list(self.unsettled)

    def entry(self, state, ahead):
        """Tell what is done in a state with this ahead, or None."""
        self.states.need_state(state)
        return self.doings.get((state, ahead)) if isinstance(ahead, str) else None

    def to(self, state, head):
        """Tell the state to which a head leads from a state, or None."""
        self.states.need_state(state)
        return self.states.leads.get((state, head)) if is_head(head) else None


def need_decided(table):
    """Refuse a table with open choices."""
    left = table.open_ones()
    if len(left) > 0:
        raise Open(left[0][0], left[0][1])
