"""Grammars to try, and the tests' own ways to look through trees: nothing here asks the package what it should tell."""

import random

from rulestable.grammar import Grammar
from rulestable.trees import Leaf, Node


def is_great(symbol):
    return "A" <= symbol[0] <= "Z"


def leaves_with_paths(tree):
    """All leaves from the left: tuples (path, sign)."""
    found = []
    waiting = [((), tree)]
    while waiting:
        path, part = waiting.pop(0)
        if isinstance(part, Leaf):
            found.append((path, part.sign))
        else:
            waiting.extend((path + (place,), child) for place, child in enumerate(part.children))
    return sorted(found)


def row_of(tree):
    return [sign for path, sign in leaves_with_paths(tree)]


def count_of(tree):
    count, waiting = 0, [tree]
    while waiting:
        part = waiting.pop()
        count += 1
        waiting.extend(getattr(part, "children", ()))
    return count


def part_at(tree, path):
    for place in path:
        tree = tree.children[place]
    return tree


def behind_path(tree, path):
    """The first leaf that lies behind a path and not below it, or the end mark."""
    path = tuple(path)
    for place, sign in leaves_with_paths(tree):
        if place > path and place[:len(path)] != path:
            return sign
    return "$"


def nodes_with_paths(tree):
    """All nodes: tuples (path, node)."""
    waiting = [((), tree)]
    while waiting:
        path, part = waiting.pop()
        if isinstance(part, Node):
            yield path, part
            waiting.extend((path + (place,), child) for place, child in enumerate(part.children))


def written(tree):
    """The tree as nested tuples and texts, so that like trees are equal."""
    if isinstance(tree, Leaf):
        return tree.sign
    return (tree.number,) + tuple(written(child) for child in tree.children)


def go_down(case, rules, symbol, tree):
    """Fail where the tree is none of the symbol: rule by rule and leaf by leaf."""
    if not is_great(symbol):
        case.assertIs(type(tree), Leaf)
        case.assertEqual(tree.sign, symbol)
        return
    case.assertIs(type(tree), Node)
    case.assertIs(type(tree.number), int)
    case.assertTrue(0 <= tree.number < len(rules))
    head, body = rules[tree.number]
    case.assertEqual(head, symbol)
    case.assertIs(type(tree.children), tuple)
    case.assertEqual(len(tree.children), len(body))
    for wanted, child in zip(body, tree.children):
        go_down(case, rules, wanted, child)


def ways_to_part(total, count):
    """All ways to make a whole number of so many numbers from 1 on."""
    if count == 0:
        return [()] if total == 0 else []
    return [(first,) + rest for first in range(1, total - count + 2) for rest in ways_to_part(total - first, count - 1)]


def small_trees(rules, most, cap=60):
    """A dict from heads to all their trees of a size of at most so many; of each size at most cap."""
    found = {head: {} for head, body in rules}

    def of_size(symbol, size):
        if is_great(symbol):
            return found[symbol].get(size, [])
        return [Leaf(symbol)] if size == 1 else []

    def rows(symbols, sizes):
        if not symbols:
            return [[]]
        rest = rows(symbols[1:], sizes[1:])
        return [[child] + more for child in of_size(symbols[0], sizes[0]) for more in rest][:cap]

    for size in range(1, most + 1):
        for number, (head, body) in enumerate(rules):
            for sizes in ways_to_part(size - 1, len(body)):
                for children in rows(body, sizes):
                    if len(found[head].get(size, [])) < cap:
                        found[head].setdefault(size, []).append(Node(number, children))
    return {head: [tree for size in sorted(found[head]) for tree in found[head][size]] for head in found}


def grammar_by(chance):
    """A small grammar, perhaps with barren heads, heads that are never reached and rules that are not live."""
    heads = ["S", "A", "B", "C1"][:chance.randint(1, 4)]
    signs = ["a", "b", "+", "!"][:chance.randint(1, 4)]
    rules = [(head, ()) for head in heads if chance.random() < 0.3]
    for turn in range(chance.randint(1, 7)):
        symbols = chance.choice([heads, signs, heads + signs, heads + signs])
        rules.append((chance.choice(heads), tuple(chance.choice(symbols) for place in range(chance.randint(0, 4)))))
    rules = list(dict.fromkeys(rules))
    known = {head for head, body in rules}
    rules = [(head, tuple(symbol for symbol in body if not is_great(symbol) or symbol in known)) for head, body in rules]
    rules = list(dict.fromkeys(rules))
    chance.shuffle(rules)
    return Grammar(rules, [("left", ("+", "zz")), ("none", ("a",))][:chance.randint(0, 2)])


def some_grammars(count, seed=5):
    """So many grammars, always the same ones."""
    chance = random.Random(seed)
    return [grammar_by(chance) for turn in range(count)]


def example():
    """`{0 {2 a {4}} b {0 {4} b {1}}}`, a tree of `S : A b S | ~` and `A : a A | A A A A | ~`: its yield is a b b."""
    return Node(0, [Node(2, [Leaf("a"), Node(4, [])]), Leaf("b"), Node(0, (Node(4, ()), Leaf("b"), Node(1, [])))])


def deep_tree(depth, number=0):
    """A tree so deep, of one leaf and nodes with one child."""
    tree = Leaf("a")
    for turn in range(depth - 1):
        tree = Node(number, [tree])
    return tree


def wide_tree(leaves):
    """A tree of the grammar `E : E E E E | E a a a | a` with that many leaves at least, few of them deep."""
    trees = [Node(2, [Leaf("a")]) for turn in range(leaves)]
    while len(trees) > 1:
        while len(trees) % 4 and len(trees) > 1:
            trees.append(Node(2, [Leaf("a")]))
        trees = [Node(0, trees[place:place + 4]) for place in range(0, len(trees), 4)]
    return trees[0]


def heights_of(rules):
    """For each fruitful head how deep its least deep trees are, a leaf being 1 deep."""
    found = {}
    for turn in range(len(rules) + 1):
        for head, body in rules:
            deep = [found.get(symbol) if is_great(symbol) else 1 for symbol in body]
            if None not in deep:
                found[head] = min(found.get(head, 10 ** 6), 1 + max(deep, default=0))
    return found


def grown_tree(rules, symbol, depth, chance):
    """Some tree of the symbol that is so deep, or one of the least deep ones where there are no others."""
    heights = heights_of(rules)

    def grow(part, depth):
        if not is_great(part):
            return Leaf(part)
        needed = {number: max([heights.get(other, 10 ** 6) for other in body if is_great(other)], default=0)
                  for number, (head, body) in enumerate(rules) if head == part}
        fitting = [number for number in needed if needed[number] < depth]
        number = chance.choice(fitting or [number for number in needed if needed[number] == min(needed.values())])
        return Node(number, [grow(child, depth - 1) for child in rules[number][1]])

    return grow(symbol, depth)


def with_other_part(rules, tree, depth, chance):
    """The tree with another part at some place: (tree, place in the yield, how many signs go there, those that come)."""
    path, part = chance.choice(list(nodes_with_paths(tree)))
    other = grown_tree(rules, rules[part.number][0], depth, chance)
    place = len([sign for spot, sign in leaves_with_paths(tree) if spot < path])
    told = other
    for length in range(len(path) - 1, -1, -1):
        above = part_at(tree, path[:length])
        told = Node(above.number, above.children[:path[length]] + (told,) + above.children[path[length] + 1:])
    return told, place, len(row_of(part)), row_of(other)
