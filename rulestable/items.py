"""Items: rules with a dot and what is ahead of them, what they open and lead to, and which papers they have."""

from rulestable.books import ahead_of, empty_heads, first_signs, need_clean
from rulestable.errors import NoItem, NoPlace, NoSymbol
from rulestable.trees import behind_of, cut_of, is_rule_number, is_tree
from rulestable.words import END_MARK, is_head, is_symbol, is_whole

OWN_NUMBER = -1


def is_own_number(thing):
    """Tell whether the thing is the number of the start's own rule."""
    return is_whole(thing) and thing == OWN_NUMBER


def item_body(grammar, number):
    """Tell the body of a rule, or of the start's own one."""
    return (grammar.start,) if number == OWN_NUMBER else grammar.body_of(number)


def is_ahead(grammar, number, thing):
    """Tell whether the thing may be ahead in an item of this number."""
    # A thing of another kind may call itself equal to a text, so its kind is looked at first.
    if not isinstance(thing, str):
        return False
    return thing == END_MARK or (number != OWN_NUMBER and thing in grammar.signs())


def is_item(grammar, thing):
    """Tell whether the thing is an item of the grammar."""
    if not isinstance(thing, tuple) or len(thing) != 3:
        return False
    if not is_own_number(thing[0]) and not is_rule_number(grammar, thing[0]):
        return False
    if not is_whole(thing[1]) or not 0 <= thing[1] <= len(item_body(grammar, thing[0])):
        return False
    return is_ahead(grammar, thing[0], thing[2])


def need_items(grammar, items):
    """Refuse what is no list of items of the grammar."""
    if not isinstance(items, list):
        raise NoItem(items)
    for item in items:
        if not is_item(grammar, item):
            raise NoItem(item)


def need_symbol(grammar, symbol):
    """Refuse what is none of the grammar's heads and signs."""
    if not is_symbol(symbol) or symbol not in grammar.heads() + grammar.signs():
        raise NoSymbol(symbol)


def symbol_behind(grammar, item):
    """Tell the symbol behind the dot of an item, None where the dot is at the end."""
    body = item_body(grammar, item[0])
    return body[item[1]] if item[1] < len(body) else None


def moved(grammar, items):
    """Tell for each symbol that stands behind dots of the items these items, with dots one greater."""
    told = {}
    for item in items:
        symbol = symbol_behind(grammar, item)
        if symbol is not None:
            told.setdefault(symbol, []).append((item[0], item[1] + 1, item[2]))
    return told


class Opener:
    """What the items of a clean grammar open; it keeps what it was asked, as items come again and again."""

    def __init__(self, grammar):
        self.grammar = grammar
        self.first = first_signs(grammar)
        self.empty = empty_heads(grammar)
        self.known = {}

    def found_behind(self, item):
        """Find the items that an item opens."""
        head = symbol_behind(self.grammar, item)
        if not is_head(head):
            return []
        rest = item_body(self.grammar, item[0])[item[1] + 1:]
        told = []
        for ahead in ahead_of(self.first, self.empty, rest, item[2]):
            told.extend([(number, 0, ahead) for number in self.grammar.numbers_of(head)])
        return told

    def opens(self, item):
        """Tell the items that an item opens."""
        if item not in self.known:
            self.known[item] = self.found_behind(item)
        return self.known[item]

    def grounds(self, items):
        """Tell for each item that the items are closed by the one that opened it first, None for these items."""
        told = {}
        for item in items:
            told[item] = None
        waiting = list(told)
        place = 0
        while place < len(waiting):
            item = waiting[place]
            for other in self.opens(item):
                if other not in told:
                    told[other] = item
                    waiting.append(other)
            place = place + 1
        return told


def closed(grammar, items):
    """Tell the items and all that they open, and these, and so on, rising."""
    need_clean(grammar)
    need_items(grammar, items)
    return sorted(Opener(grammar).grounds(items))


def led(grammar, items, symbol):
    """Tell the items to which the symbol leads, closed."""
    need_clean(grammar)
    need_items(grammar, items)
    need_symbol(grammar, symbol)
    return sorted(Opener(grammar).grounds(moved(grammar, items).get(symbol, [])))


def core_of(items):
    """Tell the numbers and dots of items, rising, each once."""
    return sorted(set([(item[0], item[1]) for item in items]))


def is_own_paper(grammar, way, dot, path):
    """Tell whether way and path are those of a paper for the start's own rule with this dot."""
    return path is None and way == [grammar.start][:dot]


def is_node_paper(grammar, way, item, tree, path):
    """Tell whether the path leads in the tree to a node of the item's rule, with the way as its cut there."""
    try:
        node = tree.at(path)
    except NoPlace:
        return False
    if node.is_leaf() or node.number != item[0]:
        return False
    return cut_of(grammar, tree, path, item[1]) == way and behind_of(tree, path) == item[2]


def is_valid(grammar, way, item, tree, path):
    """Tell whether the tree and the path are a paper for the item and the way."""
    if not is_item(grammar, item) or not is_tree(grammar, grammar.start, tree):
        return False
    if item[0] == OWN_NUMBER:
        return is_own_paper(grammar, way, item[1], path)
    return is_node_paper(grammar, way, item, tree, path)
