"""Ranks kept: the trees of rows with ops between, told by a plain reader without a table."""

from rulestable.errors import NoRanks, NoTree
from rulestable.trees import Leaf, Node, children_of, is_tree
from rulestable.words import MOST_READ, is_head, need_row

# By which places of a body have heads: what stands at each of them, of the rules that an operator grammar may have.
ROLES_BY_FORM = {
    (True, False, True): ("head", "op", "head"),
    (False, True, False): ("left", "head", "right"),
    (False,): ("atom",),
}


def roles_in(body):
    """Tell what stands at each place of a body, nothing where no operator grammar has such a rule."""
    return ROLES_BY_FORM.get(tuple([is_head(symbol) for symbol in body]), ())


def spots_in(grammar):
    """Tell a tuple (sign, role, number) for each place of a sign in the rules."""
    told = []
    for number, rule in enumerate(grammar.rules):
        told.extend([(symbol, role, number) for symbol, role in zip(rule[1], roles_in(rule[1])) if role != "head"])
    return told


def is_operators(grammar):
    """Tell whether this is an operator grammar."""
    if len(grammar.heads()) > 1 or any([len(roles_in(rule[1])) == 0 for rule in grammar.rules]):
        return False
    spots = spots_in(grammar)
    if len(spots) > len(grammar.signs()) or "atom" not in [spot[1] for spot in spots]:
        return False
    return all([(grammar.rank_of(spot[0]) is not None) == (spot[1] == "op") for spot in spots])


def need_operators(grammar):
    """Refuse what is no operator grammar."""
    if not is_operators(grammar):
        raise NoRanks(grammar.ranks)


def may_stand_below(grammar, rank, child, side):
    """Tell whether a child may stand right beneath an op of a rank, on this side of it."""
    # Beside an op stand nodes alone; and as no sign but ops has a rank, the rank by a rule is its op's.
    below = grammar.rank_by(child.number)
    return below is None or below > rank or (below == rank and grammar.side_at(rank) == side)


def keeps_here(grammar, tree):
    """Tell whether the tree keeps the ranks as far as can be seen at its root and its children."""
    rank = None if tree.is_leaf() else grammar.rank_by(tree.number)
    if rank is None:
        return True
    return (may_stand_below(grammar, rank, tree.children[0], "left")
            and may_stand_below(grammar, rank, tree.children[2], "right"))


def keeps(grammar, tree):
    """Tell whether a tree of the start keeps the ranks."""
    need_operators(grammar)
    if not is_tree(grammar, grammar.start, tree):
        raise NoTree(tree)
    waiting = [tree]
    while len(waiting) > 0:
        part = waiting.pop()
        if not keeps_here(grammar, part):
            return False
        waiting.extend(list(children_of(part)))
    return True


class Climber:
    """What is built up of a row so far: trees, and the rules whose op or left sign waits for what comes behind it."""

    def __init__(self, grammar):
        self.grammar = grammar
        self.trees = []
        self.waiting = []
        self.is_built = False

    def build(self, number):
        """Put the last trees, one for each head in a rule's body, together to one."""
        body = self.grammar.body_of(number)
        backwards = []
        for symbol in reversed(body):
            backwards.append(self.trees.pop() if is_head(symbol) else Leaf(symbol))
        self.trees.append(Node(number, list(reversed(backwards))))

    def last_rank(self):
        """Tell the rank of the op that waits last, None where none waits behind the last left sign."""
        return self.grammar.rank_by(self.waiting[-1]) if len(self.waiting) > 0 else None

    def build_ops(self):
        """Build up all ops that wait behind the last left sign."""
        while self.last_rank() is not None:
            self.build(self.waiting.pop())

    def is_stronger(self, rank):
        """Tell whether the op that waits last has the tree behind it, and not the op of a rank that comes next."""
        last = self.last_rank()
        return last is not None and (last > rank or (last == rank and self.grammar.side_at(rank) == "left"))

    def takes_op(self, number):
        """Build up the ops that are stronger than the one that comes; tell whether it may stand there."""
        rank = self.grammar.rank_by(number)
        while self.is_stronger(rank):
            self.build(self.waiting.pop())
        if self.last_rank() == rank and self.grammar.side_at(rank) == "none":
            return False
        self.waiting.append(number)
        return True

    def takes_right(self, number):
        """Build up all that stands between a left and a right sign; tell whether both are of one rule."""
        self.build_ops()
        if len(self.waiting) == 0 or self.waiting.pop() != number:
            return False
        self.build(number)
        return True

    def takes(self, role, number):
        """Take a sign, told by its role in its rule; tell whether it may stand there."""
        # Atoms and left signs begin a tree, so they stand just where none is built up that lacks an op behind it.
        if (role in ("atom", "left")) == self.is_built:
            return False
        self.is_built = role in ("atom", "right")
        if role == "op":
            return self.takes_op(number)
        if role == "right":
            return self.takes_right(number)
        if role == "atom":
            self.build(number)
        else:
            self.waiting.append(number)
        return True

    def whole(self):
        """Tell the one tree that is built up of all, or None."""
        if not self.is_built:
            return None
        self.build_ops()
        return self.trees[0] if len(self.waiting) == 0 else None


def climbed(grammar, row):
    """Tell the tree that keeps the ranks and has this row as its yield, or None."""
    need_operators(grammar)
    need_row(row, MOST_READ)
    roles = {}
    for sign, role, number in spots_in(grammar):
        roles[sign] = (role, number)
    climber = Climber(grammar)
    for sign in row:
        if sign not in roles or not climber.takes(roles[sign][0], roles[sign][1]):
            return None
    return climber.whole()
