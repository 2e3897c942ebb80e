"""Books of a grammar: what has trees, may be empty, comes first, comes behind, is reached and is live."""

from rulestable.errors import Dead, Vast
from rulestable.trees import Leaf, Node, put_in
from rulestable.words import END_MARK, is_head, is_sign

MOST_SIZE = 40


def all_numbers(grammar):
    """Tell the numbers of all rules."""
    return list(range(len(grammar.rules)))


def bare_numbers(grammar):
    """Tell the numbers of the rules without signs in their bodies: trees without leaves have no others."""
    return [number for number, rule in enumerate(grammar.rules) if all([is_head(symbol) for symbol in rule[1]])]


def size_by(body, sizes):
    """Tell the size of a node of this body, by the sizes of heads; None where a head has none."""
    size = 1
    for symbol in body:
        if is_sign(symbol):
            size = size + 1
        elif symbol in sizes:
            size = size + sizes[symbol]
        else:
            return None
    return size


def sizes_by(grammar, numbers):
    """Tell for each head the size of its smallest trees that have rules of these numbers alone."""
    sizes = {}
    changed = True
    while changed:
        changed = False
        for number in numbers:
            head = grammar.head_of(number)
            size = size_by(grammar.body_of(number), sizes)
            if size is not None and (head not in sizes or size < sizes[head]):
                sizes[head] = size
                changed = True
    return sizes


def grown(symbol, trees):
    """Tell a tree of the symbol, those of heads being told."""
    return trees[symbol] if is_head(symbol) else Leaf(symbol)


def smallest_by(grammar, numbers):
    """Tell for each head a smallest tree that has rules of these numbers alone."""
    sizes = sizes_by(grammar, numbers)
    trees = {}
    # The children in a smallest tree are smaller than it, so they are there when they are needed.
    for head in sorted(sizes, key=lambda known: sizes[known]):
        fitting = [number for number in numbers
                   if grammar.head_of(number) == head and size_by(grammar.body_of(number), sizes) == sizes[head]]
        trees[head] = Node(fitting[0], [grown(symbol, trees) for symbol in grammar.body_of(fitting[0])])
    return trees


def least_sizes(grammar):
    """Tell for each fruitful head the size of its smallest trees."""
    return sizes_by(grammar, all_numbers(grammar))


def empty_heads(grammar):
    """Tell the heads that may be empty, rising."""
    return sorted(sizes_by(grammar, bare_numbers(grammar)))


def need_small(grammar):
    """Refuse a vast grammar."""
    whole = least_sizes(grammar)
    bare = sizes_by(grammar, bare_numbers(grammar))
    for head in grammar.heads():
        if max(whole.get(head, 0), bare.get(head, 0)) > MOST_SIZE:
            raise Vast(head)


def fruitful(grammar):
    """Tell for each fruitful head a smallest tree."""
    need_small(grammar)
    return smallest_by(grammar, all_numbers(grammar))


def empties(grammar):
    """Tell for each head that may be empty a smallest tree without leaves."""
    need_small(grammar)
    return smallest_by(grammar, bare_numbers(grammar))


def fruitful_numbers(grammar):
    """Tell the numbers of the rules all of whose body's symbols are fruitful."""
    sizes = least_sizes(grammar)
    return [number for number, rule in enumerate(grammar.rules) if size_by(rule[1], sizes) is not None]


def open_places(body, begin, empty):
    """Tell the places from begin on that only heads which may be empty part from it, the body's end among them."""
    places = [begin]
    while places[-1] < len(body) and body[places[-1]] in empty:
        places.append(places[-1] + 1)
    return places


def handed_on(finds, spots):
    """Hand finds on until no new one comes: by each spot (head, source, ground) from the source to the head.

    A find has as its key (symbol, sign) and is told with its ground; each stands behind those on which it rests.
    """
    known = dict(finds)
    before = -1
    while before < len(known):
        before = len(known)
        for head, source, ground in spots:
            handed = [key[1] for key in known if key[0] == source]
            for sign in handed:
                known.setdefault((head, sign), ground)
    return known


def signs_by(finds, symbols):
    """Tell for each of the symbols the signs that the finds tell of it, rising."""
    told = {}
    for symbol in symbols:
        told[symbol] = sorted([key[1] for key in finds if key[0] == symbol])
    return told


def first_finds(grammar):
    """Tell which signs may come first in which symbols; the ground is (number, place), None of a sign itself."""
    empty = empty_heads(grammar)
    finds = {}
    for sign in grammar.signs():
        finds[(sign, sign)] = None
    spots = []
    for number in fruitful_numbers(grammar):
        body = grammar.body_of(number)
        inside = [place for place in open_places(body, 0, empty) if place < len(body)]
        spots.extend([(grammar.head_of(number), body[place], (number, place)) for place in inside])
    return handed_on(finds, spots)


def first_signs(grammar):
    """Tell for each head and sign the signs that may come first in it, rising."""
    return signs_by(first_finds(grammar), grammar.heads() + grammar.signs())


def children_by(body, begin, behind, fruit, bare):
    """Tell smallest trees of the body's symbols, those from begin on and ahead of behind without leaves."""
    children = [grown(symbol, fruit) for symbol in body]
    for place in range(begin, behind):
        children[place] = bare[body[place]]
    return children


def firsts(grammar):
    """Tell for each head and sign, and each sign that may come first in it, a tree that begins so."""
    fruit = fruitful(grammar)
    bare = empties(grammar)
    told = {}
    for symbol in grammar.heads() + grammar.signs():
        told[symbol] = {}
    for find, ground in first_finds(grammar).items():
        sign = find[1]
        if ground is None:
            told[find[0]][sign] = Leaf(sign)
        else:
            place = ground[1]
            body = grammar.body_of(ground[0])
            children = children_by(body, 0, place, fruit, bare)
            children[place] = told[body[place]][sign]
            told[find[0]][sign] = Node(ground[0], children)
    return told


def reached(grammar):
    """Tell for each reached head a way from the start."""
    if grammar.start not in least_sizes(grammar):
        return {}
    numbers = fruitful_numbers(grammar)
    ways = {grammar.start: []}
    waiting = [grammar.start]
    while len(waiting) > 0:
        head = waiting.pop(0)
        own = [number for number in numbers if grammar.head_of(number) == head]
        for number in own:
            for place, symbol in enumerate(grammar.body_of(number)):
                if is_head(symbol) and symbol not in ways:
                    ways[symbol] = ways[head] + [(number, place)]
                    waiting.append(symbol)
    return ways


def live(grammar):
    """Tell the numbers of the live rules, rising."""
    ways = reached(grammar)
    return [number for number in fruitful_numbers(grammar) if grammar.head_of(number) in ways]


def need_clean(grammar):
    """Refuse a grammar with a rule that isn't live, then a vast one."""
    alive = live(grammar)
    for number in all_numbers(grammar):
        if number not in alive:
            raise Dead(number)
    need_small(grammar)


def follow_grounds(grammar):
    """Tell all tuples (number, place, behind): a head at a place of a live rule, and an open place behind it."""
    empty = empty_heads(grammar)
    grounds = []
    for number in live(grammar):
        body = grammar.body_of(number)
        for place, symbol in enumerate(body):
            if is_head(symbol):
                grounds.extend([(number, place, behind) for behind in open_places(body, place + 1, empty)])
    return grounds


def follow_finds(grammar):
    """Tell what may come behind which heads; the ground is (number, place, behind), None of the start's end mark."""
    if grammar.start not in reached(grammar):
        return {}
    starts = first_signs(grammar)
    finds = {(grammar.start, END_MARK): None}
    spots = []
    for number, place, behind in follow_grounds(grammar):
        ground = (number, place, behind)
        body = grammar.body_of(number)
        if behind == len(body):
            spots.append((body[place], grammar.head_of(number), ground))
        else:
            for sign in starts[body[behind]]:
                finds.setdefault((body[place], sign), ground)
    return handed_on(finds, spots)


def follow_signs(grammar):
    """Tell for each reached head what may come behind it, rising."""
    return signs_by(follow_finds(grammar), sorted(reached(grammar)))


def paper_along(grammar, way, fruit):
    """Tell a tree of the start and a path to a node in it, made by a way."""
    tree = fruit[grammar.start]
    path = []
    for number, place in way:
        node = Node(number, [grown(symbol, fruit) for symbol in grammar.body_of(number)])
        tree = put_in(tree, path, node)
        path = path + [place]
    return (tree, path)


def follows(grammar):
    """Tell for each reached head, and all that may come behind it, a tree of the start and a path to such a node."""
    fruit = fruitful(grammar)
    bare = empties(grammar)
    starts = firsts(grammar)
    ways = reached(grammar)
    told = {}
    for head in ways:
        told[head] = {}
    for find, ground in follow_finds(grammar).items():
        if ground is None:
            told[find[0]][find[1]] = (fruit[grammar.start], [])
            continue
        above = grammar.head_of(ground[0])
        body = grammar.body_of(ground[0])
        behind = ground[2]
        children = children_by(body, ground[1] + 1, behind, fruit, bare)
        if behind == len(body):
            paper = told[above][find[1]]
        else:
            children[behind] = starts[body[behind]][find[1]]
            paper = paper_along(grammar, ways[above], fruit)
        tree = put_in(paper[0], paper[1], Node(ground[0], children))
        told[find[0]][find[1]] = (tree, paper[1] + [ground[1]])
    return told


def ahead_of(first, empty, symbols, ahead):
    """Tell what may be first in yields of the symbols and what stands ahead behind them, by the books of a grammar."""
    found = {}
    for symbol in symbols:
        for sign in first[symbol]:
            found[sign] = True
        if symbol not in empty:
            return sorted(found)
    found[ahead] = True
    return sorted(found)


def first_row(grammar, symbols, ahead):
    """Tell what may be first in yields of the symbols, in order, and what stands ahead behind them, rising."""
    need_clean(grammar)
    return ahead_of(first_signs(grammar), empty_heads(grammar), symbols, ahead)
