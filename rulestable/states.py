"""States: lists of items that lead to one another, and for each item of a state a paper."""

from rulestable.books import children_by, empties, firsts, fruitful, grown, need_clean, open_places
from rulestable.errors import NoItem, NoState, TooMany
from rulestable.items import OWN_NUMBER, Opener, is_item, moved, need_symbol
from rulestable.trees import Node
from rulestable.words import END_MARK, is_whole


class States:
    """The states of a grammar, numbered from 0."""

    def __init__(self, grammar, most=300):
        need_clean(grammar)
        self.grammar = grammar
        # For each state a dict: of each of its items the one that opened it, None where it was led there.
        self.grounds_in = []
        self.ways = []
        self.leads = {}
        self.fill(Opener(grammar), most)
        # Papers are asked for often, so the trees for them are kept.
        self.fruit = fruitful(grammar)
        self.bare = empties(grammar)
        self.starts = firsts(grammar)

    def fill(self, opener, most):
        """Find all states."""
        numbers = {}
        self.add_state(opener, [(OWN_NUMBER, 0, END_MARK)], [], most)
        state = 0
        while state < len(self.ways):
            kernels = moved(self.grammar, self.grounds_in[state])
            for symbol in sorted(kernels):
                # What was led has no dot of 0 and what is opened no other, so states are equal where led items are.
                kernel = tuple(sorted(kernels[symbol]))
                if kernel not in numbers:
                    numbers[kernel] = len(self.ways)
                    # By the least state and then the least symbol: so of the shortest ways the first one is kept.
                    self.add_state(opener, kernel, self.ways[state] + [symbol], most)
                self.leads[(state, symbol)] = numbers[kernel]
            state = state + 1

    def add_state(self, opener, kernel, way, most):
        """Put the state that is closed from these items behind the others, if there may be one more."""
        if len(self.ways) >= most:
            raise TooMany(most + 1)
        self.grounds_in.append(opener.grounds(kernel))
        self.ways.append(way)

    def need_state(self, state):
        """Refuse what is no number of a state."""
        if not is_whole(state) or not 0 <= state < len(self.ways):
            raise NoState(state)

    def many(self):
        """Tell how many states there are."""
        return len(self.ways)

    def items(self, state):
        """Tell the items of a state, rising."""
        self.need_state(state)
        return sorted(self.grounds_in[state])

    def to(self, state, symbol):
        """Tell the state to which a symbol leads from a state, or None."""
        self.need_state(state)
        need_symbol(self.grammar, symbol)
        return self.leads.get((state, symbol))

    def way(self, state):
        """Tell the first one of the shortest ways to a state."""
        self.need_state(state)
        return list(self.ways[state])

    def states_along(self, state):
        """Tell the states on the way to a state, from state 0 to this one."""
        told = [0]
        for symbol in self.ways[state]:
            told.append(self.leads[(told[-1], symbol)])
        return told

    def opened_by(self, state, item):
        """Tell the item of a state that opened this one there, when its dot was 0."""
        return self.grounds_in[state][(item[0], 0, item[2])]

    def children_round(self, item, inner, ahead):
        """Tell the children of a node of the item's rule: inner at the dot, behind it such that ahead comes next."""
        body = self.grammar.body_of(item[0])
        begin = item[1] + 1
        places = open_places(body, begin, self.bare)
        beginning = [place for place in places if place < len(body) and ahead in self.starts[body[place]]]
        # Where no symbol behind the dot begins so, all of them are empty, and what is ahead of the item comes next.
        behind = beginning[0] if len(beginning) > 0 else len(body)
        children = children_by(body, begin, behind, self.fruit, self.bare)
        children[item[1]] = inner
        if behind < len(body):
            children[behind] = self.starts[body[behind]][ahead]
        return children


def paper_for(states, state, item):
    """Tell a tree of the start and a path that are a paper for an item of a state and the state's way."""
    states.need_state(state)
    if not is_item(states.grammar, item) or item not in states.grounds_in[state]:
        raise NoItem(item)
    if item[0] == OWN_NUMBER:
        return (states.fruit[states.grammar.start], None)
    along = states.states_along(state)
    tree = Node(item[0], [grown(symbol, states.fruit) for symbol in states.grammar.body_of(item[0])])
    path = []
    # Back along the way to where the item had the dot 0, from there up to the item that opened it, and so on.
    inner = item
    place = len(along) - 1 - inner[1]
    above = states.opened_by(along[place], inner)
    while above[0] != OWN_NUMBER:
        tree = Node(above[0], states.children_round(above, tree, inner[2]))
        path = [above[1]] + path
        inner = above
        place = place - inner[1]
        above = states.opened_by(along[place], inner)
    return (tree, path)
