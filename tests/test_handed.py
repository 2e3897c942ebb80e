"""[6]: over the whole program, what is handed in stays as it is, and lists and dicts that are told are the asker's own."""

import unittest

from rulestable import books, chart, conflicts, costs, items, mending, ownbook, ranked, reader, shut, trees, words
from rulestable.anew import Anew
from rulestable.chart import Chart
from rulestable.desk import Desk
from rulestable.grammar import Grammar
from rulestable.grammartext import read_grammar, show_grammar
from rulestable.laying import Laid
from rulestable.reader import Reading
from rulestable.states import States, paper_for
from rulestable.tables import Table
from rulestable.treetext import read_tree, show_tree
from tests.growing import written
from tests.paying import own_costs
from tests.texts import EMPTY, SUMS

LEFT = "left +\n" + SUMS
PRICES = {"+": (1, 2), "n": (3, 4), "(": (5, 6), ")": (7, 8)}


def described(thing):
    """A thing that can be compared later on, whatever is done with the lists and dicts in it until then."""
    if isinstance(thing, trees.Tree):
        return "tree", written(thing)
    if isinstance(thing, Grammar):
        return "grammar", thing.rules, thing.ranks, thing.start
    if isinstance(thing, (list, tuple)):
        return type(thing).__name__, tuple(described(part) for part in thing)
    if isinstance(thing, dict):
        return "dict", tuple((key, described(part)) for key, part in thing.items())
    return (type(thing).__name__, thing) if isinstance(thing, (int, str, type(None))) else (type(thing).__name__,)


def holders(thing):
    """All lists and dicts in a thing."""
    if isinstance(thing, (list, dict)):
        yield thing
    if isinstance(thing, (list, tuple, dict)):
        for part in thing.values() if isinstance(thing, dict) else thing:
            yield from holders(part)


def spoil_all(thing):
    """Change all lists and dicts in a thing."""
    for held in list(holders(thing)):
        if isinstance(held, list):
            held.reverse()
            held.append("spoilt")
            held.insert(0, ["spoilt"])
        else:
            held.clear()
            held["spoilt"] = ["spoilt"]


def calls():
    """Tuples (name, function, arguments) for all that is asked with lists or dicts, or told as such."""
    grammar, empty, plain = read_grammar(LEFT), read_grammar(EMPTY), read_grammar(SUMS)
    states, table = States(grammar), Table(States(grammar))
    laid, tree, row = Laid(table), read_tree("{0 {2 n} + {1 ( {2 n} )}}"), ["n", "+", "(", "n", ")"]
    starts, ends = books.first_signs(empty), books.follow_signs(empty)
    conflict = table.conflicts()[0]
    paper = conflicts.conflict_paper(states, conflict)
    valid = paper_for(states, 3, states.items(3)[0])
    deeds = [("keep", sign) for sign in row]
    triples = Chart(plain, row).tells()
    yield "is_row", words.is_row, (row, 5)
    yield "rules", lambda rules, ranks: Grammar(rules, ranks).rules, (list(grammar.rules), list(grammar.ranks))
    yield "signs", lambda told: told.signs(), (tree,)
    yield "at", lambda path: tree.at(path), ([2, 1],)
    yield "put_in", trees.put_in, (tree, [2, 1], tree)
    yield "cut_of", trees.cut_of, (grammar, tree, [2, 1], 1)
    yield "behind_of", trees.behind_of, (tree, [2, 1])
    yield "steps_of", trees.steps_of, (tree,)
    yield "tree_by", trees.tree_by, (grammar, trees.steps_of(tree))
    for name in "least_sizes empty_heads fruitful empties first_signs firsts follow_signs follows reached live".split():
        for told in (grammar, empty):
            yield name, getattr(books, name), (told,)
    yield "first_row", books.first_row, (empty, ["A", "B"], "$")
    yield "ahead_of", books.ahead_of, (starts, ["A", "B", "S"], ["A", "B"], "$")
    yield "is_barren_set", shut.is_barren_set, (empty, [])
    yield "is_shut_empty", shut.is_shut_empty, (empty, ["A", "B", "S"])
    yield "are_least", shut.are_least, (empty, books.least_sizes(empty))
    yield "is_shut_firsts", shut.is_shut_firsts, (empty, [], ["A", "B", "S"], starts)
    yield "is_shut_follows", shut.is_shut_follows, (empty, [], ["A", "B", "S"], starts, ends)
    yield "tells", lambda told: Chart(plain, told).tells(), (row,)
    yield "is_closed_chart", chart.is_closed_chart, (plain, row, triples)
    yield "tree_for", chart.tree_for, (plain, row)
    yield "two_trees", chart.two_trees, (plain, ["n", "+", "n", "+", "n"])
    yield "goes_on", chart.goes_on, (plain, ["n", "+", "("])
    yield "closed", items.closed, (grammar, [(-1, 0, "$"), (-1, 0, "$")])
    yield "led", items.led, (grammar, states.items(0), "E")
    yield "core_of", items.core_of, (states.items(0),)
    yield "is_valid", items.is_valid, (grammar, states.way(3), states.items(3)[0]) + valid
    yield "paper_for", paper_for, (states, 11, states.items(11)[0])
    yield "conflict_paper", conflicts.conflict_paper, (states, conflict)
    yield "is_conflict", conflicts.is_conflict, (grammar, conflict[1], conflict[2], paper)
    yield "takable", reader.takable, (laid, [0, 1])
    yield "can_take", reader.can_take, (table, [0, 1], "+")
    yield "climbed", ranked.climbed, (grammar, row)
    yield "price_of", costs.price_of, (grammar, row, dict(PRICES), deeds, tree)
    yield "is_below", costs.is_below, (grammar, ["n"], dict(PRICES), own_costs(grammar.rules, ["n"], PRICES))
    yield "mend", lambda *told: mended(mending.mend(*told)), (grammar, ["n", "n", "("], dict(PRICES))
    yield "kinds_of", ownbook.kinds_of, ("left + -",)
    yield "own_grammar", lambda: ownbook.own_grammar().heads(), ()
    yield "read_by_table", ownbook.read_by_table, (ownbook.own_table(), LEFT)
    yield "show_grammar", show_grammar, (grammar,)
    yield "show_tree", show_tree, (tree,)


def mended(told):
    return told.price(), told.deeds(), told.mended(), told.answer(), told.costs()


def all_asked(asks):
    return [ask() for ask in asks]


def objects():
    """Tuples (name, make, arguments, asks): what an object is made of, and what is asked of it then."""
    grammar = read_grammar(LEFT)
    states = States(grammar)
    table = Table(states)
    yield "Grammar", Grammar, [list(grammar.rules), list(grammar.ranks)], lambda told: [
        lambda: (told.rules, told.ranks, told.start), told.heads, told.signs, lambda: told.numbers_of("E"),
        lambda: told.body_of(0), lambda: told.rank_of("+")]
    yield "Node", trees.Node, [1, [trees.Leaf("("), trees.Leaf("n"), trees.Leaf(")")]], lambda told: [
        lambda: told.children, told.signs, told.size, told.depth]
    yield "Chart", Chart, [grammar, ["n", "+", "n"]], lambda told: [
        told.tells, lambda: told.grown("E", 0, 3), lambda: told.has("n", 2, 3)]
    yield "States", States, [grammar], lambda told: [
        told.many, lambda: told.items(0), lambda: told.way(11), lambda: told.to(0, "E"), lambda: paper_for(told, 11, told.items(11)[0])]
    yield "Table", Table, [states], lambda told: [
        told.many, told.conflicts, told.decided, told.open_ones, lambda: told.entry(11, "+"), lambda: told.to(0, "E")]
    yield "Table without ranks", Table, [states, False], lambda told: [told.conflicts, told.decided, told.open_ones]
    yield "Laid", Laid, [table], lambda told: [
        told.groups, told.kept_apart, told.many, told.open_ones, lambda: told.entry(3, "+"), lambda: told.to(0, "E")]
    for kind in (Reading, Anew):
        for row in (["n", "+", "n"], ["n", "+", ")"], []):
            yield kind.__name__, kind, [table, row], lambda told: [
                told.word, told.steps, told.made, told.stacks, told.where, told.expected] + (
                    [told.signs, told.looked] if isinstance(told, Anew) else [])
    yield "Mend", mending.mend, [grammar, ["n", "n"], dict(PRICES)], lambda told: [
        told.price, told.deeds, told.mended, told.answer, told.costs]


class TestCalls(unittest.TestCase):

    def test_what_is_handed_in_stays_as_it_is(self):
        for name, ask, told in calls():
            before = described(told)
            ask(*told)
            self.assertEqual(described(told), before, name)

    def test_what_is_told_is_the_askers_own(self):
        for name, ask, told in calls():
            first = ask(*told)
            wanted = described(first)
            held = [id(part) for part in holders((first, told))]
            again = ask(*told)
            self.assertEqual(described(again), wanted, name)
            for part in holders(again):
                self.assertNotIn(id(part), held, name)
            spoil_all(first)
            spoil_all(again)
            self.assertEqual(described(ask(*told)), wanted, name)

    def test_each_list_is_told_once_in_an_answer(self):
        for name, ask, told in calls():
            answer = ask(*told)
            held = [id(part) for part in holders(answer)]
            self.assertEqual(len(held), len(set(held)), name)


class TestObjects(unittest.TestCase):

    def test_what_is_changed_behind_the_making_changes_nothing(self):
        for name, make, told, asks in objects():
            before = described(told)
            made = make(*told)
            wanted = described(all_asked(asks(made)))
            self.assertEqual(described(told), before, name)
            spoil_all([part for part in told if isinstance(part, (list, dict))])
            spoil_all(told)
            self.assertEqual(described(all_asked(asks(made))), wanted, name)

    def test_what_is_told_is_the_askers_own(self):
        for name, make, told, asks in objects():
            made = make(*told)
            wanted = described(all_asked(asks(made)))
            spoil_all(all_asked(asks(made)))
            first, again = all_asked(asks(made)), all_asked(asks(made))
            self.assertEqual(described(first), wanted, name)
            held = [id(part) for part in holders(first)]
            self.assertFalse([part for part in holders(again) if id(part) in held], name)

    def test_objects_made_alike_tell_the_same(self):
        for (name, make, told, asks), (same, other, others, more) in zip(objects(), objects()):
            self.assertEqual(described(all_asked(asks(make(*told)))), described(all_asked(more(other(*others)))), name)

    def test_rows_that_are_changed(self):
        put, kept = ["(", "n", ")"], Anew(Table(States(read_grammar(LEFT))), ["n", "+", "n"])
        kept.change(2, 1, put)
        self.assertEqual(put, ["(", "n", ")"])
        put.append("n")
        for told in (kept.signs(), kept.stacks(), kept.steps(), kept.expected()):
            spoil_all(told)
        self.assertEqual(kept.signs(), ["n", "+", "(", "n", ")"])
        self.assertEqual(show_tree(kept.made()), "{0 {2 n} + {1 ( {2 n} )}}")

    def test_desks(self):
        one, other = Desk(), Desk()
        for line in ("grammar " + LEFT.replace("\n", " # "), "table", "read n + n", "change 0 1 ( n )", "looked", "laid"):
            self.assertEqual(one.say(line), other.say(line))


if __name__ == "__main__":
    unittest.main()
