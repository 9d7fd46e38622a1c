"""The form of the package's own files: the plainest rules of the language they keep to."""

import ast
import pathlib
import re
import unittest

PACKAGE = pathlib.Path(__file__).resolve().parent.parent / "huedties"
OWN_NAMES = """len range enumerate zip min max sum abs sorted reversed int str bool bytes list tuple dict set isinstance ord
repr any all divmod Exception ValueError TypeError KeyError IndexError LookupError ZeroDivisionError ArithmeticError
OverflowError RuntimeError NotImplementedError AttributeError StopIteration""".split()
METHODS = """append clear copy count endswith extend find get index insert isalnum isalpha isdigit islower isspace isupper
items join keys ljust lower lstrip partition pop remove replace reverse rfind rjust rpartition rsplit rstrip setdefault
split splitlines startswith strip update upper values zfill bit_length add discard sort __init__""".split()
RULED_OUT = (ast.GeneratorExp, ast.NamedExpr, ast.With, ast.Match, ast.Global, ast.Nonlocal, ast.Yield, ast.YieldFrom,
             ast.AsyncFunctionDef, ast.Await, ast.Div, ast.Import, ast.AnnAssign)
RULED_OUT_WORDS = """type typing typing_extensions enum Enum IntEnum StrEnum Flag IntFlag Generic Protocol ABC ABCMeta
namedtuple NamedTuple TypedDict TYPE_CHECKING abstractmethod""".split()
BUILT_IN = set(dir(__builtins__) if not isinstance(__builtins__, dict) else __builtins__)


def read_files():
    return {path.name: path.read_text(encoding="utf-8") for path in sorted(PACKAGE.glob("*.py"))}


def bound_in(tree):
    """The names that a file gives itself, by any row."""
    names = {alias.asname or alias.name for node in ast.walk(tree) if isinstance(node, ast.ImportFrom)
             for alias in node.names}
    names |= {node.id for node in ast.walk(tree) if isinstance(node, ast.Name) and not isinstance(node.ctx, ast.Load)}
    names |= {node.arg for node in ast.walk(tree) if isinstance(node, ast.arg)}
    return names | {node.name for node in ast.walk(tree) if isinstance(node, (ast.FunctionDef, ast.ClassDef))}


class Form(unittest.TestCase):

    def setUp(self):
        self.texts = read_files()
        self.trees = {name: ast.parse(text) for name, text in self.texts.items()}

    def test_the_folder_holds_files_of_the_language_alone(self):
        self.assertIn("__init__.py", self.texts)
        found = {path.name for path in PACKAGE.iterdir()} - {"__pycache__"}
        self.assertEqual(found, set(self.texts))

    def test_rows(self):
        for name, text in self.texts.items():
            self.assertLessEqual(text.count("\n"), 400, name)
            for row in text.split("\n"):
                self.assertLessEqual(len(row), 120, (name, row))
                self.assertTrue(all(" " <= sign <= "~" for sign in row), (name, row))

    def test_words(self):
        for name, text in self.texts.items():
            for word in RULED_OUT_WORDS:
                self.assertIsNone(re.search(rf"\b{word}\b", text), (name, word))
            for word in ("dataclass", "overload", "contextmanager"):
                self.assertNotIn(word, text, name)

    def test_defs_are_short_and_plain(self):
        for name, tree in self.trees.items():
            for node in ast.walk(tree):
                self.assertNotIsInstance(node, RULED_OUT, (name, getattr(node, "lineno", None)))
                if isinstance(node, ast.FunctionDef):
                    self.assertLessEqual(node.end_lineno - node.lineno + 1, 40, (name, node.name))
                    self.assertEqual(node.decorator_list, [], (name, node.name))
                    self.assertIsNone(node.args.vararg or node.args.kwarg, (name, node.name))

    def own_methods(self):
        classes = [node for tree in self.trees.values() for node in tree.body if isinstance(node, ast.ClassDef)]
        return [row.name for node in classes for row in node.body if isinstance(row, ast.FunctionDef)]

    def test_names(self):
        methods = METHODS + self.own_methods()
        for name, tree in self.trees.items():
            bound = bound_in(tree)
            self.assertEqual(bound & BUILT_IN - {"__init__"}, set(), name)
            for node in ast.walk(tree):
                if isinstance(node, ast.Name) and node.id not in bound:
                    self.assertIn(node.id, OWN_NAMES, (name, node.lineno))
                if isinstance(node, ast.Call) and isinstance(node.func, ast.Attribute):
                    self.assertIn(node.func.attr, methods, (name, node.lineno))

    def test_imports(self):
        drawn = {}
        for name, tree in self.trees.items():
            rows = [node for node in ast.walk(tree) if isinstance(node, ast.ImportFrom)]
            drawn[name] = [row.module.removeprefix("huedties.") + ".py" for row in rows]
            for row, source in zip(rows, drawn[name]):
                self.assertIn(row, tree.body, name)
                self.assertEqual(row.level, 0, name)
                own = {node.name for node in self.trees[source].body if isinstance(node, (ast.FunctionDef, ast.ClassDef))}
                for alias in row.names:
                    self.assertIn(alias.name, own, (name, alias.name))
                    used = [node for node in ast.walk(tree) if isinstance(node, ast.Name) and node.id == alias.name]
                    self.assertTrue(used, (name, alias.name))
        while drawn:
            free = [name for name in drawn if not set(drawn[name]) & set(drawn)]
            self.assertTrue(free, "files draw from one another")
            drawn = {name: drawn[name] for name in drawn if name not in free}

    def test_locals_bear_names_of_their_own(self):
        for name, tree in self.trees.items():
            drawn = {alias.name for row in tree.body if isinstance(row, ast.ImportFrom) for alias in row.names}
            drawn |= {row.name for row in tree.body if isinstance(row, ast.ClassDef)}
            given = {node.id for node in ast.walk(tree) if isinstance(node, ast.Name) and not isinstance(node.ctx, ast.Load)}
            given |= {node.arg for node in ast.walk(tree) if isinstance(node, ast.arg)}
            self.assertEqual(given & drawn, set(), name)
            self.assertEqual([word for word in given | drawn if word.startswith("_")], [], name)

    def test_methods_and_values_bear_unlike_names(self):
        values = {node.attr for tree in self.trees.values() for node in ast.walk(tree)
                  if isinstance(node, ast.Attribute) and isinstance(node.ctx, ast.Store)}
        self.assertEqual(values & set(self.own_methods()), set())
        self.assertEqual(values & set(METHODS) - {"count", "index", "find", "get", "join", "split", "copy"}, set())

    def test_values_that_are_asked_are_given(self):
        given = {node.attr for tree in self.trees.values() for node in ast.walk(tree)
                 if isinstance(node, ast.Attribute) and isinstance(node.ctx, ast.Store)}
        for name, tree in self.trees.items():
            called = [node.func for node in ast.walk(tree) if isinstance(node, ast.Call)]
            for node in ast.walk(tree):
                if isinstance(node, ast.Attribute) and node not in called:
                    self.assertIn(node.attr, given, (name, node.lineno))

    def test_errors_are_raised_and_taken_by_name(self):
        own = {node.name for node in self.trees["errors.py"].body if isinstance(node, ast.ClassDef)}
        for name, tree in self.trees.items():
            for node in ast.walk(tree):
                if isinstance(node, ast.Raise):
                    self.assertIn(node.exc.func.id, own, (name, node.lineno))
                if isinstance(node, ast.ExceptHandler):
                    kinds = node.type.elts if isinstance(node.type, ast.Tuple) else [node.type]
                    self.assertLessEqual({kind.id for kind in kinds}, own, (name, node.lineno))

    def test_the_top_of_a_file(self):
        for name, tree in self.trees.items():
            self.assertIsNotNone(ast.get_docstring(tree), name)
            for row in tree.body[1:]:
                self.assertIsInstance(row, (ast.ImportFrom, ast.FunctionDef, ast.ClassDef, ast.Assign), (name, row.lineno))
            tops = {row.targets[0].id: row.value for row in tree.body if isinstance(row, ast.Assign)}
            for value in tops.values():
                inner = [node for node in ast.walk(value) if isinstance(node, (ast.Dict, ast.List, ast.Call, ast.Set))]
                self.assertLessEqual(len(inner), 1, name)
            # What is kept at a file's top is read by an index or asked with in, never handed on or changed.
            above = {inner: node for node in ast.walk(tree) for inner in ast.iter_child_nodes(node)}
            for node in ast.walk(tree):
                if isinstance(node, ast.Name) and isinstance(tops.get(node.id), ast.Dict) and isinstance(node.ctx, ast.Load):
                    self.assertIsInstance(above[node], (ast.Subscript, ast.Compare), (name, node.lineno))

    def test_what_is_walked_is_not_kept(self):
        walked = ("range", "zip", "enumerate", "reversed", "items", "keys", "values")
        for name, tree in self.trees.items():
            for node in ast.walk(tree):
                if isinstance(node, (ast.Assign, ast.Return)) and isinstance(node.value, ast.Call):
                    called = node.value.func
                    word = called.id if isinstance(called, ast.Name) else called.attr
                    self.assertNotIn(word, walked, (name, node.lineno))

    def test_sets_are_asked_on_the_spot_or_kept_once(self):
        for name, tree in self.trees.items():
            above = {inner: node for node in ast.walk(tree) for inner in ast.iter_child_nodes(node)}
            for node in ast.walk(tree):
                called = node.func.id if isinstance(node, ast.Call) and isinstance(node.func, ast.Name) else None
                if called == "set" or isinstance(node, (ast.SetComp, ast.Set)):
                    over = above[node]
                    spot = isinstance(over, ast.Call) and isinstance(over.func, ast.Name) and over.func.id in ("len", "sorted")
                    self.assertTrue(spot or isinstance(over, (ast.Compare, ast.BinOp, ast.Assign)), (name, node.lineno))
                self.assertNotEqual(called, "frozenset", name)

    def test_is_stands_beside_none_true_and_false(self):
        for name, tree in self.trees.items():
            for node in ast.walk(tree):
                if isinstance(node, ast.Compare):
                    for sign, thing in zip(node.ops, node.comparators):
                        if isinstance(sign, (ast.Is, ast.IsNot)):
                            self.assertIsInstance(thing, ast.Constant, (name, node.lineno))


if __name__ == "__main__":
    unittest.main()
