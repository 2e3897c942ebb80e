"""The refusals: each a class of its own, straight under TableError."""


class TableError(ValueError):
    """Any refusal."""


class NoRule(TableError):
    """What is no list of rules, no rule, or no number of a rule."""

    def __init__(self, found):
        self.found = found


class NoRanks(TableError):
    """What is no list of ranks, or no rank that may stand there."""

    def __init__(self, found):
        self.found = found


class NoSymbol(TableError):
    """What is none of the symbols that are asked for."""

    def __init__(self, found):
        self.found = found


class NoTree(TableError):
    """What is no tree, or none that fits."""

    def __init__(self, found):
        self.found = found


class NoRow(TableError):
    """What is no row, or a longer one than is let in."""

    def __init__(self, found):
        self.found = found


class NoItem(TableError):
    """What is no item, or none of those that are asked for."""

    def __init__(self, found):
        self.found = found


class NoPrice(TableError):
    """What is no prices, or a sign that has none."""

    def __init__(self, found):
        self.found = found


class TooMany(TableError):
    """A number of things that is not let in."""

    def __init__(self, found):
        self.found = found


class NoText(TableError):
    """The number of a row that hasn't the form of its place."""

    def __init__(self, line):
        self.line = line


class NoLine(TableError):
    """What is no line for a desk."""

    def __init__(self, line):
        self.line = line


class NoHead(TableError):
    """A head that no rule has."""

    def __init__(self, head):
        self.head = head


class Vast(TableError):
    """A head whose smallest trees are too great."""

    def __init__(self, head):
        self.head = head


class Doubled(TableError):
    """The number of a rule that stands ahead already."""

    def __init__(self, number):
        self.number = number


class Dead(TableError):
    """The number of a rule that stands in no tree of the start."""

    def __init__(self, number):
        self.number = number


class NoState(TableError):
    """What is no number of a state or of a group."""

    def __init__(self, state):
        self.state = state


class NoPlace(TableError):
    """What is no place, or leads to none."""

    def __init__(self, place):
        self.place = place


class Open(TableError):
    """A state and what is ahead of it, where a choice is left."""

    def __init__(self, state, ahead):
        self.state = state
        self.ahead = ahead
