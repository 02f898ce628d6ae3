"""The files of the package against those rules of its subset of Python that a short look at the code can tell."""

import ast
import builtins
import pathlib
import re
import unittest

PACKAGE = pathlib.Path(__file__).resolve().parent.parent / "openroads"
FILES = sorted(PACKAGE.rglob("*.py"))

BUILTINS = set(
    "len range enumerate zip min max sum abs sorted reversed int str bool bytes list tuple dict set isinstance ord repr"
    " any all divmod Exception ValueError TypeError KeyError IndexError LookupError ZeroDivisionError iter next"
    " ArithmeticError OverflowError RuntimeError NotImplementedError AttributeError StopIteration NotImplemented".split())
WORDS = set(
    "type typing typing_extensions enum Enum IntEnum StrEnum Flag IntFlag Generic Protocol ABC ABCMeta namedtuple"
    " NamedTuple TypedDict TYPE_CHECKING abstractmethod".split())
NAMES = set(
    "register mro elements open input law version_info with_traceback add_note attrgetter breakpoint builtins compile"
    " copyright credits delattr dir eval exec exit gc getattr globals hasattr help id importlib license locals"
    " methodcaller os quit setattr super type vars sys format format_map".split())
METHODS = set(
    "append clear copy count endswith extend find get index insert isalnum isalpha isdigit islower isspace isupper items"
    " join keys ljust lower lstrip partition pop remove replace reverse rfind rjust rpartition rsplit rstrip setdefault"
    " split splitlines startswith strip update upper values zfill bit_length".split())
BARRED = (
    ast.Global, ast.AsyncFunctionDef, ast.AsyncFor, ast.AsyncWith, ast.Import, ast.Div, ast.Set, ast.GeneratorExp,
    ast.Yield, ast.YieldFrom, ast.Try, ast.With, ast.Match, ast.AnnAssign, ast.Delete, ast.Nonlocal, ast.NamedExpr)
DUNDERS = {"__init__", "__eq__", "__len__", "__lt__", "__le__", "__gt__", "__ge__", "__contains__", "__add__",
           "__mul__", "__xor__", "__invert__", "__pos__", "__neg__"}


def names_bound(node):
    """The names that a node gives a meaning to."""
    if isinstance(node, (ast.FunctionDef, ast.ClassDef)):
        return [node.name]
    if isinstance(node, ast.arg):
        return [node.arg]
    if isinstance(node, ast.Name) and isinstance(node.ctx, ast.Store):
        return [node.id]
    if isinstance(node, ast.alias):
        return [node.asname or node.name]
    return []


class Language(unittest.TestCase):

    def setUp(self):
        self.trees = {path: ast.parse(path.read_text(encoding="ascii")) for path in FILES}

    def nodes(self):
        for path, tree in self.trees.items():
            for node in ast.walk(tree):
                yield path.name + ":" + str(getattr(node, "lineno", 0)), node

    def test_files_and_sizes(self):
        self.assertIn(PACKAGE / "__init__.py", FILES)
        others = [path for path in PACKAGE.rglob("*") if path.suffix != ".py" and "__pycache__" not in str(path)]
        self.assertEqual(others, [])
        for path in FILES:
            text = path.read_text(encoding="ascii")
            self.assertRegex(path.name, r"^[a-z0-9_]+\.py$")
            self.assertRegex(text, r"^[ -~\n]*$", path.name)
            self.assertLessEqual(len(text.splitlines()), 399, path.name)
            self.assertLessEqual(max([len(line) for line in text.splitlines()]), 120, path.name)
            self.assertEqual(set(re.findall(r"\w+", text)) & WORDS, set(), path.name)
            self.assertIsNone(re.search(r"dataclass|overload|contextmanager", text), path.name)

    def test_functions_are_short(self):
        for place, node in self.nodes():
            if isinstance(node, ast.FunctionDef):
                self.assertLessEqual(node.end_lineno - node.lineno + 1, 40, place)
                self.assertLessEqual({item.id for item in node.decorator_list}, {"staticmethod"}, place)

    def test_barred_nodes(self):
        for place, node in self.nodes():
            self.assertNotIsInstance(node, BARRED, place)
            if isinstance(node, ast.Compare) and any(isinstance(sign, (ast.Is, ast.IsNot)) for sign in node.ops):
                self.assertIn(node.comparators[0].value, (None, True, False), place)
            if isinstance(node, ast.Constant):
                self.assertNotIsInstance(node.value, float, place)
                self.assertNotIn("%", str(node.value), place)

    def test_imports(self):
        for place, node in self.nodes():
            if isinstance(node, ast.ImportFrom):
                home = PACKAGE.parent / (node.module.replace(".", "/") + ".py")
                self.assertEqual(node.level, 0, place)
                self.assertIn(home, self.trees, place)
                there = [name for item in self.trees[home].body if not isinstance(item, ast.ImportFrom)
                         for inner in [item] + getattr(item, "targets", []) for name in names_bound(inner)]
                self.assertEqual([alias.asname for alias in node.names], [None] * len(node.names), place)
                self.assertLessEqual({alias.name for alias in node.names}, set(there), place)

    def test_names(self):
        for place, node in self.nodes():
            for name in names_bound(node):
                self.assertNotIn(name, NAMES, place)
                if name in DUNDERS:
                    continue
                self.assertRegex(name, r"^[A-Za-z][A-Za-z0-9_]*$", place)
                self.assertFalse(hasattr(builtins, name), (place, name))
            if isinstance(node, ast.Name) and hasattr(builtins, node.id):
                self.assertIn(node.id, BUILTINS | {"staticmethod"}, place)
            if isinstance(node, ast.Attribute):
                self.assertNotIn(node.attr, NAMES, place)
                self.assertFalse(node.attr.startswith("_"), place)

    def test_names_are_bound_once_at_module_level(self):
        for path, tree in self.trees.items():
            bound = [name for item in tree.body for node in ([item] + getattr(item, "targets", []) + getattr(
                item, "names", [])) for name in names_bound(node)]
            self.assertEqual(len(bound), len(set(bound)), path.name)
            held = {name for item in tree.body if isinstance(item, (ast.ClassDef, ast.ImportFrom))
                    for node in [item] + getattr(item, "names", []) for name in names_bound(node)}
            for node in ast.walk(tree):
                if isinstance(node, ast.arg) or isinstance(node, ast.Name) and isinstance(node.ctx, ast.Store):
                    self.assertEqual(set(names_bound(node)) & held, set(), path.name)

    def test_methods_and_attributes(self):
        methods, stored, read, called = set(), set(), set(), set()
        for place, node in self.nodes():
            if isinstance(node, ast.ClassDef):
                methods |= {item.name for item in node.body if isinstance(item, ast.FunctionDef)}
            if isinstance(node, ast.Attribute):
                (stored if isinstance(node.ctx, ast.Store) else read).add(node.attr)
            if isinstance(node, ast.Call) and isinstance(node.func, ast.Attribute):
                called.add(node.func.attr)
        self.assertEqual(methods & stored, set())
        self.assertLessEqual(called, methods | METHODS)
        self.assertLessEqual(read, stored | called)


if __name__ == "__main__":
    unittest.main()
