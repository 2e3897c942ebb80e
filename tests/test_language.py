"""The package keeps to the written part of Python: what of ../shared/LANGUAGE.md can be seen by a look at its files."""

import ast
import builtins
import functools
import re
import unittest
from pathlib import Path

PACKAGE = Path(__file__).resolve().parent.parent / "rulestable"
BUILT_IN = set("""len range enumerate zip min max sum abs sorted reversed int str bool list tuple dict set frozenset
isinstance ord repr any all divmod Exception ValueError TypeError KeyError IndexError LookupError ZeroDivisionError
ArithmeticError OverflowError RuntimeError NotImplementedError AttributeError StopIteration object""".split())
OWN_METHODS = ("__init__", "__eq__", "__repr__", "__str__", "__len__")
OUT_WORDS = set("""type typing typing_extensions enum Enum IntEnum StrEnum Flag IntFlag Generic Protocol ABC ABCMeta
namedtuple NamedTuple TypedDict TYPE_CHECKING abstractmethod""".split())
OUT_NAMES = set("""register mro elements open input version_info with_traceback add_note format format_map""".split())
METHODS = set("""append clear copy count endswith extend find get index insert isalnum isalpha isdigit islower isspace
isupper items join keys ljust lower lstrip partition pop remove replace reverse rfind rjust rpartition rsplit rstrip
setdefault split splitlines startswith strip update upper values zfill bit_length""".split())
OUT_NODES = (
    ast.With, ast.AsyncWith, ast.Match, ast.Delete, ast.Global, ast.Nonlocal, ast.Assert, ast.Yield, ast.YieldFrom,
    ast.Await, ast.AsyncFor, ast.AsyncFunctionDef, ast.SetComp, ast.DictComp, ast.GeneratorExp, ast.NamedExpr,
    ast.Starred, ast.Import, ast.Div, ast.TryStar,
)
PLAIN_NODES = (ast.Constant, ast.List, ast.Tuple, ast.Dict, ast.Name, ast.Load, ast.UnaryOp, ast.USub)


def files():
    return sorted(PACKAGE.rglob("*.py"))


@functools.cache
def trees():
    return [(path.name, ast.parse(path.read_text(encoding="ascii"))) for path in files()]


@functools.cache
def nodes(*kinds):
    """Each node of these kinds, with its file and row."""
    return [(f"{name}:{getattr(node, 'lineno', 0)}", node)
            for name, tree in trees() for node in ast.walk(tree) if isinstance(node, kinds)]


@functools.cache
def parents():
    """A dict from each node to the one in which it stands."""
    return {child: node for name, tree in trees() for node in ast.walk(tree) for child in ast.iter_child_nodes(node)}


@functools.cache
def methods():
    """The names of all methods of the package's own classes."""
    return {part.name for where, node in nodes(ast.ClassDef) for part in node.body if isinstance(part, ast.FunctionDef)}


def called(node):
    """The name of what a call calls, of a name or a method; None where the node is no call."""
    if isinstance(node, ast.Call):
        return getattr(node.func, "id", getattr(node.func, "attr", None))
    return None


class TestLanguage(unittest.TestCase):

    def test_files(self):
        self.assertTrue((PACKAGE / "__init__.py").is_file())
        for path in PACKAGE.rglob("*"):
            if "__pycache__" not in path.parts:
                self.assertRegex(path.name, r"^(__init__|__main__|[a-z][a-z0-9_]*)\.py$")
                self.assertNotIn(path.stem, dir(builtins))
                self.assertNotIn(path.stem, OUT_WORDS)

    def test_characters_and_sizes(self):
        for path in files():
            text = path.read_text(encoding="utf-8")
            self.assertIsNone(re.search(r"[^\n -~]", text), path.name)
            rows = text.split("\n")
            self.assertLessEqual(len(rows), 400, path.name)
            self.assertLessEqual(max(map(len, rows)), 120, path.name)
        for where, node in nodes(ast.FunctionDef):
            self.assertLessEqual(node.end_lineno - node.lineno + 1, 40, where)

    def test_words_that_stand_nowhere(self):
        for path in files():
            text = path.read_text(encoding="ascii")
            self.assertEqual(set(re.findall(r"\w+", text)) & OUT_WORDS, set(), path.name)
            self.assertIsNone(re.search("dataclass|overload|contextmanager", text), path.name)

    def test_imports(self):
        for where, node in nodes(ast.ImportFrom):
            self.assertEqual(node.level, 0, where)
            self.assertRegex(node.module, r"^rulestable\.[a-z0-9_]+$", where)
            self.assertNotIn("*", [alias.name for alias in node.names], where)

    def test_no_two_files_draw_from_one_another(self):
        drawn = {name[:-3]: {node.module.split(".")[1] for node in ast.walk(tree) if isinstance(node, ast.ImportFrom)}
                 for name, tree in trees()}
        left = dict(drawn)
        while left:
            free = [name for name in left if not left[name] & set(left)]
            self.assertTrue(free, left)
            for name in free:
                left.pop(name)

    def test_statements_and_expressions(self):
        for where, node in nodes(*OUT_NODES):
            self.fail(f"{where} {node}")
        for where, node in nodes(ast.For, ast.While):
            self.assertEqual(node.orelse, [], where)
        for where, node in nodes(ast.Try):
            self.assertEqual(node.finalbody, [], where)
        for where, node in nodes(ast.Assign):
            self.assertEqual(len(node.targets), 1, where)
        for where, node in nodes(ast.ListComp):
            self.assertEqual(len(node.generators), 1, where)
            self.assertLessEqual(len(node.generators[0].ifs), 1, where)
        for where, node in nodes(ast.Compare):
            for kind, side in zip(node.ops, node.comparators):
                if isinstance(kind, (ast.Is, ast.IsNot)):
                    self.assertIn(getattr(side, "value", 0), (None, True, False), where)

    def test_values(self):
        for where, node in nodes(ast.Constant):
            self.assertNotIsInstance(node.value, (float, bytes, complex), where)
            if isinstance(node.value, str):
                self.assertNotIn(chr(37), node.value, where)

    def test_functions_and_classes(self):
        for where, node in nodes(ast.FunctionDef, ast.ClassDef):
            self.assertEqual(node.decorator_list, [], where)
        for where, node in nodes(ast.FunctionDef, ast.Lambda):
            told = node.args
            self.assertEqual((told.vararg, told.kwarg, told.kwonlyargs, told.posonlyargs), (None, None, [], []), where)
        for where, node in nodes(ast.ClassDef):
            self.assertLessEqual(len(node.bases), 1, where)
            methods = [part.name for part in node.body if isinstance(part, ast.FunctionDef)]
            self.assertEqual(len(methods), len(set(methods)), where)

    def test_names(self):
        bound = [(where, node.name) for where, node in nodes(ast.FunctionDef, ast.ClassDef)]
        bound += [(where, node.arg) for where, node in nodes(ast.arg)]
        bound += [(where, node.id) for where, node in nodes(ast.Name) if isinstance(node.ctx, ast.Store)]
        for where, name in bound:
            if name not in OWN_METHODS:
                self.assertRegex(name, r"^[A-Za-z][A-Za-z0-9_]*$", where)
        at_top = [(where, name) for where, name in bound if name not in methods()]
        for where, name in at_top:
            self.assertNotIn(name, dir(builtins), where)
        for where, name in bound + [(where, node.attr) for where, node in nodes(ast.Attribute)]:
            self.assertNotIn(name, OUT_NAMES, where)

    def test_names_of_pythons_own(self):
        for where, node in nodes(ast.Name):
            if node.id in dir(builtins):
                self.assertIn(node.id, BUILT_IN, where)

    def test_methods(self):
        for where, node in nodes(ast.Call):
            if isinstance(node.func, ast.Attribute):
                self.assertIn(node.func.attr, METHODS | methods(), where)

    def test_no_name_is_a_method_and_a_value(self):
        stored = {node.attr for where, node in nodes(ast.Attribute) if isinstance(node.ctx, ast.Store)}
        self.assertEqual(stored & methods(), set())

    def test_no_local_is_called_like_a_class_or_an_import(self):
        for name, tree in trees():
            taken = {part.name for part in tree.body if isinstance(part, ast.ClassDef)}
            taken |= {alias.name for part in tree.body if isinstance(part, ast.ImportFrom) for alias in part.names}
            for part in ast.walk(tree):
                bound = part.arg if isinstance(part, ast.arg) else getattr(part, "id", None)
                if isinstance(part, ast.arg) or isinstance(getattr(part, "ctx", None), ast.Store):
                    self.assertNotIn(bound, taken, f"{name}:{part.lineno}")

    def test_each_name_once_at_the_top(self):
        for name, tree in trees():
            bound = [part.name for part in tree.body if isinstance(part, (ast.FunctionDef, ast.ClassDef))]
            bound += [alias.name for part in tree.body if isinstance(part, ast.ImportFrom) for alias in part.names]
            bound += [part.targets[0].id for part in tree.body if isinstance(part, ast.Assign)]
            self.assertEqual(len(bound), len(set(bound)), name)

    def test_names_are_drawn_from_the_file_that_defines_them(self):
        defined = {name[:-3]: {getattr(part, "name", None) or part.targets[0].id for part in tree.body
                               if isinstance(part, (ast.FunctionDef, ast.ClassDef, ast.Assign))} for name, tree in trees()}
        for where, node in nodes(ast.ImportFrom):
            for alias in node.names:
                self.assertIn(alias.name, defined[node.module.split(".")[1]], where)
                self.assertIsNone(alias.asname, where)

    def test_no_annotations(self):
        self.assertEqual(nodes(ast.AnnAssign), [])
        for where, node in nodes(ast.FunctionDef):
            self.assertIsNone(node.returns, where)
        for where, node in nodes(ast.arg):
            self.assertIsNone(node.annotation, where)

    def test_keywords(self):
        allowed = {"sorted": ("key", "reverse"), "min": ("key", "default"), "max": ("key", "default"), "sum": ("start",),
                   "enumerate": ("start",), "zip": ("strict",)}
        for where, node in nodes(ast.Call):
            if called(node) in METHODS or called(node) in BUILT_IN:
                for keyword in node.keywords:
                    self.assertIn(keyword.arg, allowed.get(called(node), ()), where)

    def test_walked_at_once(self):
        takers = ("list", "tuple", "dict", "sorted", "sum", "any", "all", "enumerate", "zip", "min", "max", "join")
        for where, node in nodes(ast.Call):
            if called(node) in ("zip", "enumerate", "reversed", "range", "items", "keys", "values"):
                above = parents()[node]
                walked = isinstance(above, (ast.For, ast.comprehension)) and above.iter is node
                self.assertTrue(walked or (called(above) in takers and above.args[0] is node), where)

    def test_what_a_loop_walks_is_not_changed_in_it(self):
        changes = ("append", "clear", "extend", "insert", "pop", "remove", "reverse", "setdefault", "update")
        for where, loop in nodes(ast.For):
            walked = {part.id for part in ast.walk(loop.iter) if isinstance(part, ast.Name)}
            for part in [inner for row in loop.body for inner in ast.walk(row)]:
                changed = None
                if isinstance(part, ast.Call) and called(part) in changes and isinstance(part.func, ast.Attribute):
                    changed = getattr(part.func.value, "id", None)
                elif isinstance(part, ast.Subscript) and isinstance(part.ctx, ast.Store):
                    changed = getattr(part.value, "id", None)
                self.assertNotIn(changed, walked, f"{where} {changed}")

    def test_sets_are_not_kept(self):
        for where, node in nodes(ast.Call):
            if called(node) in ("set", "frozenset"):
                above = parents()[node]
                self.assertTrue(isinstance(above, (ast.Compare, ast.BinOp)) or called(above) in ("sorted", "len"), where)
        self.assertEqual(nodes(ast.Set), [])

    def test_errors(self):
        for where, node in nodes(ast.ExceptHandler):
            self.assertIsNotNone(node.type, where)
            self.assertNotIn(getattr(node.type, "id", None), ("Exception", "TypeError"), where)
        for where, node in nodes(ast.Raise):
            self.assertIsInstance(node.exc, ast.Call, where)

    def test_written_texts(self):
        for where, node in nodes(ast.FormattedValue):
            self.assertIsInstance(node.value, ast.Name, where)
            self.assertIn(node.conversion, (-1, ord("r")), where)
            self.assertIsNone(node.format_spec, where)
        for path in files():
            for escape in re.findall(r"\\(.)", path.read_text(encoding="ascii").replace("\\\\", "")):
                self.assertIn(escape, "nt'\"", path.name)

    def test_lambdas_with_the_same_parameters(self):
        told = [(where, ast.dump(node.args)) for where, node in nodes(ast.Lambda)]
        self.assertEqual(len(told), len(set(told)))

    def test_targets(self):
        for where, node in nodes(ast.Assign):
            self.assertIsInstance(node.targets[0], (ast.Name, ast.Attribute, ast.Subscript), where)
        for where, node in nodes(ast.Attribute):
            if isinstance(node.ctx, ast.Store):
                self.assertIsInstance(node.value, ast.Name, where)

    def test_lists_and_dicts_of_the_top_are_only_read(self):
        held = {part.targets[0].id for name, tree in trees() for part in tree.body
                if isinstance(part, ast.Assign) and isinstance(part.value, (ast.List, ast.Dict))}
        takers = ("len", "list", "tuple", "dict", "sorted", "any", "all", "sum", "min", "max", "enumerate")
        for where, node in nodes(ast.Name):
            if node.id in held and isinstance(node.ctx, ast.Load):
                above = parents()[node]
                reads = isinstance(above, (ast.Subscript, ast.For, ast.comprehension, ast.Compare)) or called(above) in takers
                asks = isinstance(above, ast.Attribute) and above.attr in ("get", "items", "keys", "values")
                self.assertTrue(reads or asks, where)
                self.assertIsInstance(getattr(above, "ctx", ast.Load()), ast.Load, where)

    def test_classes_are_not_handed_on(self):
        kinds = {node.name for where, node in nodes(ast.ClassDef)}
        for where, node in nodes(ast.Name):
            if node.id in kinds:
                above = parents()[node]
                if isinstance(above, ast.Tuple):
                    above = parents()[above]
                makes = isinstance(above, ast.Call) and (above.func is node or called(above) == "isinstance")
                base = isinstance(above, ast.Attribute) and above.attr == "__init__"
                self.assertTrue(makes or base or isinstance(above, (ast.ClassDef, ast.ExceptHandler)), where)

    def test_the_top_of_files(self):
        allowed = (ast.ImportFrom, ast.FunctionDef, ast.ClassDef, ast.Assign)
        for name, tree in trees():
            self.assertIsNotNone(ast.get_docstring(tree), name)
            for part in tree.body[1:]:
                self.assertIsInstance(part, allowed, name)
                if isinstance(part, ast.Assign):
                    for inner in ast.walk(part.value):
                        self.assertIsInstance(inner, PLAIN_NODES, name)


if __name__ == "__main__":
    unittest.main()
