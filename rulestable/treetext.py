"""The texts of trees: written, and read."""

from rulestable.errors import NoTree
from rulestable.trees import Leaf, Node
from rulestable.words import is_sign

DEEPEST = 500
MOST_CHILDREN = 4
NUMBERS = (
    "0", "1", "2", "3", "4", "5", "6", "7", "8", "9", "10", "11", "12", "13", "14", "15", "16", "17", "18", "19",
)


def show_tree(tree):
    """Tell the tree as a text."""
    told = []
    # Texts wait among the trees, to be written when their turn comes.
    waiting = [tree]
    while len(waiting) > 0:
        part = waiting.pop()
        if isinstance(part, str):
            told.append(part)
        elif part.is_leaf():
            told.append(part.sign)
        else:
            told.append("{" + str(part.number))
            waiting.append("}")
            for child in reversed(part.children):
                waiting.extend([child, " "])
    return "".join(told)


class TreeReader:
    """Takes a tree's text word by word; a word is what stands between two blanks, so each begins one tree."""

    def __init__(self):
        self.finished = None
        self.opened = []

    def begin(self, word):
        """Begin the tree of a word without the brackets that close; tell whether it may stand there."""
        if self.finished is not None or len(self.opened) >= DEEPEST:
            return False
        if is_sign(word):
            return self.finish(Leaf(word))
        if not word.startswith("{") or word[1:] not in NUMBERS:
            return False
        self.opened.append((int(word[1:]), []))
        return True

    def finish(self, tree):
        """Put a whole tree at its place; tell whether it may stand there."""
        if len(self.opened) == 0:
            self.finished = tree
            return True
        children = self.opened[-1][1]
        children.append(tree)
        return len(children) <= MOST_CHILDREN

    def close(self):
        """Close the node that was opened last; tell whether there is one that may be closed."""
        if len(self.opened) == 0:
            return False
        opened = self.opened.pop()
        return self.finish(Node(opened[0], opened[1]))


def takes_word(reader, word):
    """Let the reader take a word; tell whether it may stand there."""
    begun = word.rstrip("}")
    if not reader.begin(begun):
        return False
    for turn in range(len(word) - len(begun)):
        if not reader.close():
            return False
    return True


def read_tree(text):
    """Tell the tree that is written as this text."""
    if not isinstance(text, str):
        raise NoTree(text)
    reader = TreeReader()
    for word in text.split(" "):
        if not takes_word(reader, word):
            raise NoTree(text)
    if reader.finished is None:
        raise NoTree(text)
    return reader.finished
