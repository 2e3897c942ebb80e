"""The names and arguments of the interface are there as they stand in the document."""

import importlib
import inspect
import unittest

from rulestable.errors import TableError

FUNCTIONS = {
    "words": """is_whole(thing) is_sign(thing) is_head(thing) is_symbol(thing) is_row(thing,most)""",
    "grammartext": """read_grammar(text) show_grammar(grammar)""",
    "trees": """put_in(tree,path,other) alike(one,other) is_tree(grammar,symbol,thing) cut_of(grammar,tree,path,dot)
        behind_of(tree,path) steps_of(tree) tree_by(grammar,steps)""",
    "treetext": """show_tree(tree) read_tree(text)""",
    "books": """least_sizes(grammar) empty_heads(grammar) fruitful(grammar) empties(grammar) need_small(grammar)
        first_signs(grammar) firsts(grammar) follow_signs(grammar) follows(grammar) reached(grammar) live(grammar)
        need_clean(grammar) first_row(grammar,symbols,ahead) ahead_of(first,empty,symbols,ahead)""",
    "shut": """is_barren_set(grammar,heads) is_shut_empty(grammar,heads) are_least(grammar,numbers)
        is_shut_firsts(grammar,barren,empty,starts) is_shut_follows(grammar,barren,empty,starts,ends)""",
    "chart": """is_closed_chart(grammar,row,triples) tree_for(grammar,row) two_trees(grammar,row)
        goes_on(grammar,row)""",
    "items": """closed(grammar,items) led(grammar,items,symbol) core_of(items) is_valid(grammar,way,item,tree,path)""",
    "states": """paper_for(states,state,item)""",
    "conflicts": """conflict_paper(states,conflict) is_conflict(grammar,ahead,entries,paper)""",
    "reader": """can_take(table,pile,ahead) takable(table,pile)""",
    "ranked": """is_operators(grammar) keeps(grammar,tree) climbed(grammar,row)""",
    "costs": """price_of(grammar,row,prices,deeds,tree) is_below(grammar,row,prices,costs)""",
    "mending": """mend(grammar,row,prices)""",
    "ownbook": """kinds_of(row) own_grammar() own_table() read_by_table(table,text)""",
}
CLASSES = {
    "grammar.Grammar": """(rules,ranks=None) heads() signs() numbers_of(head) head_of(number) body_of(number)
        rank_of(sign) rank_by(number) side_at(place)""",
    "trees.Leaf": """(sign) signs() size() depth() is_leaf() symbol_in(grammar) at(path)""",
    "trees.Node": """(number,children) signs() size() depth() is_leaf() symbol_in(grammar) at(path)""",
    "chart.Chart": """(grammar,row) has(symbol,i,j) tells() grown(symbol,i,j)""",
    "states.States": """(grammar,most=300) many() items(state) to(state,symbol) way(state)""",
    "tables.Table": """(states,ranked=True) many() conflicts() decided() open_ones() entry(state,ahead) to(state,head)""",
    "laying.Laid": """(table) groups() kept_apart() many() entry(group,ahead) to(group,head) open_ones()""",
    "reader.Reading": """(table,row) word() steps() made() stacks() where() expected()""",
    "anew.Anew": """(table,row) change(place,out,put) signs() looked() word() made() steps() where() expected()
        stacks()""",
    "desk.Desk": """() say(line)""",
}
# How these are made is not told: another function makes them.
MADE_BY_OTHERS = {"mending.Mend": """price() deeds() mended() answer() costs()"""}


def shown(thing):
    """The arguments of a function, a class or a bound method, in brackets, without blanks."""
    return str(inspect.signature(thing)).replace(" ", "")


class TestInterface(unittest.TestCase):

    def test_functions(self):
        for name, told in FUNCTIONS.items():
            module = importlib.import_module("rulestable." + name)
            for wanted in told.split():
                function = getattr(module, wanted[:wanted.index("(")])
                self.assertTrue(inspect.isfunction(function), wanted)
                self.assertEqual(function.__name__ + shown(function), wanted)
                self.assertEqual(function.__module__, module.__name__)

    def test_classes(self):
        for name, told in CLASSES.items():
            file, word = name.split(".")
            kind = getattr(importlib.import_module("rulestable." + file), word)
            made, *methods = told.split()
            self.assertEqual(shown(kind), made, name)
            self.has_methods(name, kind, methods)

    def test_classes_that_others_make(self):
        for name, told in MADE_BY_OTHERS.items():
            file, word = name.split(".")
            self.has_methods(name, getattr(importlib.import_module("rulestable." + file), word), told.split())

    def has_methods(self, name, kind, methods):
        for wanted in methods:
            method = getattr(kind, wanted[:wanted.index("(")])
            self.assertEqual(shown(method).replace("(self,", "(").replace("(self)", "()"), wanted[wanted.index("("):], name)

    def test_files(self):
        for name in "errors words grammar grammartext trees treetext books shut chart items states tables conflicts laying".split():
            importlib.import_module("rulestable." + name)
        for name in "reader ranked anew costs mending ownbook desk lines".split():
            importlib.import_module("rulestable." + name)

    def test_refusals(self):
        errors = importlib.import_module("rulestable.errors")
        told = """NoRule(found) NoRanks(found) NoSymbol(found) NoTree(found) NoRow(found) NoItem(found) NoPrice(found)
            TooMany(found) NoText(line) NoLine(line) NoHead(head) Vast(head) Doubled(number) Dead(number)
            NoState(state) NoPlace(place) Open(state,ahead)"""
        for wanted in told.split():
            kind = getattr(errors, wanted[:wanted.index("(")])
            self.assertEqual(kind.__name__ + shown(kind), wanted)
            self.assertEqual(kind.__bases__, (TableError,))


if __name__ == "__main__":
    unittest.main()
