"""Trees: leaves and nodes, the places in them, and the steps by which they are read."""

from rulestable.errors import NoPlace, NoTree
from rulestable.grammar import is_pair
from rulestable.words import END_MARK, is_sign, is_whole


class Tree:
    """A leaf or a node; it never changes."""

    # Trees may be deeper than calls may lie within one another, so nothing here calls itself for a child.

    def size(self):
        """Tell how many leaves and nodes there are."""
        return self.tree_size

    def depth(self):
        """Tell how deep the tree is."""
        return self.tree_depth

    def signs(self):
        """Tell the yield."""
        told = []
        waiting = [self]
        while len(waiting) > 0:
            tree = waiting.pop()
            if tree.is_leaf():
                told.append(tree.sign)
            else:
                waiting.extend(list(reversed(tree.children)))
        return told

    def at(self, path):
        """Tell the tree to which a path leads."""
        return trees_along(self, path)[-1]


class Leaf(Tree):
    """A tree of one sign."""

    def __init__(self, sign):
        self.sign = sign
        self.tree_size = 1
        self.tree_depth = 1

    def is_leaf(self):
        """Tell that this is a leaf."""
        return True

    def symbol_in(self, grammar):
        """Tell the sign, which hangs on no grammar."""
        return self.sign


class Node(Tree):
    """The number of a rule, and a child for each symbol of its body."""

    def __init__(self, number, children):
        self.number = number
        self.children = tuple(children)
        # Any thing may be asked about as a tree, so also a node of things that are none.
        trees = [child for child in self.children if isinstance(child, Tree)]
        # Counted here once: where one tree stands at many places, going down to each of them would take long.
        self.tree_size = 1 + sum([child.size() for child in trees])
        self.tree_depth = 1 + max([child.depth() for child in trees], default=0)

    def is_leaf(self):
        """Tell that this is no leaf."""
        return False

    def symbol_in(self, grammar):
        """Tell the head of the rule."""
        if not is_rule_number(grammar, self.number):
            raise NoTree(self)
        return grammar.head_of(self.number)


def is_rule_number(grammar, thing):
    """Tell whether the thing is the number of a rule."""
    return is_whole(thing) and 0 <= thing < len(grammar.rules)


def children_of(tree):
    """Tell the children, none for a leaf."""
    return () if tree.is_leaf() else tree.children


def trees_along(tree, path):
    """Tell the trees on a path, from the root to the place to which it leads."""
    if not isinstance(path, list):
        raise NoPlace(path)
    along = [tree]
    for place in path:
        children = children_of(along[-1])
        if not is_whole(place) or not 0 <= place < len(children):
            raise NoPlace(path)
        along.append(children[place])
    return along


def nodes_upwards(tree, path):
    """Tell the nodes that a path goes through, each with the place of the child to which it goes, the lowest first."""
    return list(reversed(list(zip(trees_along(tree, path), path))))


def put_in(tree, path, other):
    """Tell the tree that has another one at the place of a path."""
    told = other
    for node, place in nodes_upwards(tree, path):
        told = Node(node.number, node.children[:place] + (told,) + node.children[place + 1:])
    return told


def are_alike_here(one, other):
    """Tell whether two trees are alike as far as can be seen without a look at their children."""
    if one.is_leaf() or other.is_leaf():
        return one.is_leaf() and other.is_leaf() and one.sign == other.sign
    return one.number == other.number and len(one.children) == len(other.children)


def alike(one, other):
    """Tell whether two trees are alike."""
    waiting = [(one, other)]
    while len(waiting) > 0:
        pair = waiting.pop()
        if not are_alike_here(pair[0], pair[1]):
            return False
        waiting.extend(list(zip(children_of(pair[0]), children_of(pair[1]))))
    return True


def fits(grammar, symbol, thing):
    """Tell whether the thing is a tree of the symbol as far as can be seen without a look at its children."""
    if isinstance(thing, Leaf):
        return is_sign(thing.sign) and thing.sign == symbol
    if not isinstance(thing, Node) or not is_rule_number(grammar, thing.number):
        return False
    return grammar.head_of(thing.number) == symbol and len(grammar.body_of(thing.number)) == len(thing.children)


def is_tree(grammar, symbol, thing):
    """Tell whether the thing is a tree of the symbol."""
    waiting = [(symbol, thing)]
    while len(waiting) > 0:
        pair = waiting.pop()
        if not fits(grammar, pair[0], pair[1]):
            return False
        if not pair[1].is_leaf():
            waiting.extend(list(zip(grammar.body_of(pair[1].number), pair[1].children)))
    return True


def trees_in_cut(tree, path, dot):
    """Tell the children to the left of a path, and behind them the first dot children of the node there."""
    along = trees_along(tree, path)
    if along[-1].is_leaf():
        raise NoPlace(path)
    if not is_whole(dot) or not 0 <= dot <= len(along[-1].children):
        raise NoPlace(dot)
    told = []
    for node, place in zip(along, path + [dot]):
        told.extend(list(node.children[:place]))
    return told


def cut_of(grammar, tree, path, dot):
    """Tell the symbols of the children to the left of a path and of the first dot children of the node there."""
    return [child.symbol_in(grammar) for child in trees_in_cut(tree, path, dot)]


def behind_of(tree, path):
    """Tell the sign that stands behind the tree to which a path leads, or the end mark."""
    for node, place in nodes_upwards(tree, path):
        for child in node.children[place + 1:]:
            signs = child.signs()
            if len(signs) > 0:
                return signs[0]
    return END_MARK


def steps_of(tree):
    """Tell the steps by which the tree is read from the left."""
    # Gone through from the last step on: a node's own one comes ahead of its children's then.
    backwards = []
    waiting = [tree]
    while len(waiting) > 0:
        part = waiting.pop()
        backwards.append(("shift", part.sign) if part.is_leaf() else ("reduce", part.number))
        waiting.extend(list(children_of(part)))
    return list(reversed(backwards))


def is_step(thing, word):
    """Tell whether the thing is a tuple of two that begins with the word."""
    # A thing of another kind may call itself equal to a text, so its kind is looked at first.
    return is_pair(thing) and isinstance(thing[0], str) and thing[0] == word


def tree_of_step(grammar, row, step):
    """Tell the tree that a step makes, from the trees at the end of the row; None where it makes none."""
    if is_step(step, "shift") and is_sign(step[1]):
        return Leaf(step[1])
    if not is_step(step, "reduce") or not is_rule_number(grammar, step[1]):
        return None
    body = grammar.body_of(step[1])
    if len(body) > len(row):
        return None
    children = row[len(row) - len(body):]
    if [child.symbol_in(grammar) for child in children] != list(body):
        return None
    return Node(step[1], children)


def tree_by(grammar, steps):
    """Tell the one tree to which the steps lead, or None."""
    row = []
    for step in steps:
        made = tree_of_step(grammar, row, step)
        if made is None:
            return None
        for child in children_of(made):
            row.pop()
        row.append(made)
    return row[0] if len(row) == 1 else None
