"""The files of the package against those rules of its subset of Python that a short look at the code can tell."""

import ast
import builtins
import pathlib
import re
import unittest

PACKAGE = pathlib.Path(__file__).resolve().parent.parent / "openroads"
FILES = sorted(PACKAGE.rglob("*.py"))

BUILTINS = set(
    "len range enumerate zip min max sum abs sorted reversed int str bool bytes list tuple dict set isinstance ord repr"
    " any all divmod Exception ValueError TypeError KeyError IndexError LookupError ZeroDivisionError iter next"
    " ArithmeticError OverflowError RuntimeError NotImplementedError AttributeError StopIteration NotImplemented".split())
WORDS = set(
    "type typing typing_extensions enum Enum IntEnum StrEnum Flag IntFlag Generic Protocol ABC ABCMeta namedtuple"
    " NamedTuple TypedDict TYPE_CHECKING abstractmethod".split())
NAMES = set(
    "register mro elements open input law version_info with_traceback add_note attrgetter breakpoint builtins compile"
    " copyright credits delattr dir eval exec exit gc getattr globals hasattr help id importlib license locals"
    " methodcaller os quit setattr super type vars sys format format_map".split())
METHODS = set(
    "append clear copy count endswith extend find get index insert isalnum isalpha isdigit islower isspace isupper items"
    " join keys ljust lower lstrip partition pop remove replace reverse rfind rjust rpartition rsplit rstrip setdefault"
    " split splitlines startswith strip update upper values zfill bit_length".split())
BARRED = (
    ast.Global, ast.AsyncFunctionDef, ast.AsyncFor, ast.AsyncWith, ast.Import, ast.Div, ast.Set, ast.GeneratorExp,
    ast.Yield, ast.YieldFrom, ast.With, ast.Match, ast.AnnAssign, ast.Nonlocal, ast.NamedExpr)
DUNDERS = {"__init__", "__eq__", "__len__", "__lt__", "__le__", "__gt__", "__ge__", "__contains__", "__add__",
           "__mul__", "__xor__", "__invert__", "__pos__", "__neg__", "__iadd__", "__getitem__", "__iter__"}
# What the operators call changes nothing but what it has made itself.
MODIFYING = {"append", "clear", "extend", "insert", "pop", "remove", "reverse", "setdefault", "update"}
IN_PLACE = {"__init__", "__iadd__"}


def names_bound(node):
    """The names that a node gives a meaning to."""
    if isinstance(node, (ast.FunctionDef, ast.ClassDef)):
        return [node.name]
    if isinstance(node, ast.arg):
        return [node.arg]
    if isinstance(node, ast.Name) and isinstance(node.ctx, ast.Store):
        return [node.id]
    if isinstance(node, ast.alias):
        return [node.asname or node.name]
    return []


def makes_new(value):
    """Whether a value is one that is new in its function, and may be changed there."""
    if isinstance(value, ast.Call):
        return getattr(value.func, "id", "") in ("list", "dict", "sorted")
    return isinstance(value, (ast.List, ast.Dict, ast.ListComp))


class Language(unittest.TestCase):

    def setUp(self):
        self.trees = {path: ast.parse(path.read_text(encoding="ascii")) for path in FILES}

    def nodes(self):
        for path, tree in self.trees.items():
            for node in ast.walk(tree):
                yield path.name + ":" + str(getattr(node, "lineno", 0)), node

    def test_files_and_sizes(self):
        self.assertIn(PACKAGE / "__init__.py", FILES)
        others = [path for path in PACKAGE.rglob("*") if path.suffix != ".py" and "__pycache__" not in str(path)]
        self.assertEqual(others, [])
        for path in FILES:
            text = path.read_text(encoding="ascii")
            self.assertRegex(path.name, r"^[a-z0-9_]+\.py$")
            self.assertRegex(text, r"^[ -~\n]*$", path.name)
            self.assertLessEqual(len(text.splitlines()), 399, path.name)
            self.assertLessEqual(max([len(line) for line in text.splitlines()]), 120, path.name)
            self.assertEqual(set(re.findall(r"\w+", text)) & WORDS, set(), path.name)
            self.assertIsNone(re.search(r"dataclass|overload|contextmanager", text), path.name)

    def test_functions_are_short(self):
        for place, node in self.nodes():
            if isinstance(node, ast.FunctionDef):
                self.assertLessEqual(node.end_lineno - node.lineno + 1, 40, place)
                self.assertLessEqual({item.id for item in node.decorator_list}, {"staticmethod", "property"}, place)

    def test_barred_nodes(self):
        for place, node in self.nodes():
            self.assertNotIsInstance(node, BARRED, place)
            if isinstance(node, ast.Compare) and any(isinstance(sign, (ast.Is, ast.IsNot)) for sign in node.ops):
                self.assertIn(node.comparators[0].value, (None, True, False), place)
            if isinstance(node, ast.Constant):
                self.assertNotIsInstance(node.value, float, place)
                self.assertNotIn("%", str(node.value), place)

    def test_imports(self):
        for place, node in self.nodes():
            if isinstance(node, ast.ImportFrom):
                home = PACKAGE.parent / (node.module.replace(".", "/") + ".py")
                self.assertEqual(node.level, 0, place)
                self.assertIn(home, self.trees, place)
                there = [name for item in self.trees[home].body if not isinstance(item, ast.ImportFrom)
                         for inner in [item] + getattr(item, "targets", []) for name in names_bound(inner)]
                self.assertEqual([alias.asname for alias in node.names], [None] * len(node.names), place)
                self.assertLessEqual({alias.name for alias in node.names}, set(there), place)

    def test_names(self):
        for place, node in self.nodes():
            for name in names_bound(node):
                self.assertNotIn(name, NAMES, place)
                if name in DUNDERS:
                    continue
                self.assertRegex(name, r"^[A-Za-z][A-Za-z0-9_]*$", place)
                self.assertFalse(hasattr(builtins, name), (place, name))
            if isinstance(node, ast.Name) and hasattr(builtins, node.id):
                self.assertIn(node.id, BUILTINS | {"staticmethod", "property"}, place)
            if isinstance(node, ast.Attribute):
                self.assertNotIn(node.attr, NAMES, place)
                # The __init__ of a base class.
                self.assertFalse(node.attr.startswith("_") and node.attr != "__init__", place)

    def test_names_are_bound_once_at_module_level(self):
        for path, tree in self.trees.items():
            bound = [name for item in tree.body for node in ([item] + getattr(item, "targets", []) + getattr(
                item, "names", [])) for name in names_bound(node)]
            self.assertEqual(len(bound), len(set(bound)), path.name)
            held = {name for item in tree.body if isinstance(item, (ast.ClassDef, ast.ImportFrom))
                    for node in [item] + getattr(item, "names", []) for name in names_bound(node)}
            for node in ast.walk(tree):
                if isinstance(node, ast.arg) or isinstance(node, ast.Name) and isinstance(node.ctx, ast.Store):
                    self.assertEqual(set(names_bound(node)) & held, set(), path.name)

    def test_tries(self):
        own = {node.name for node in self.trees[PACKAGE / "errors.py"].body if isinstance(node, ast.ClassDef)}
        for place, node in self.nodes():
            if isinstance(node, ast.ExceptHandler):
                self.assertIn(node.type.id, own, place)
            for item in getattr(node, "finalbody", []):
                self.assertIsInstance(item, ast.Assign, place)
                self.assertIsInstance(item.value, ast.Name, place)
            if isinstance(node, ast.Delete):
                for target in node.targets:
                    self.assertIsInstance(target, ast.Subscript, place)

    def test_what_is_sorted(self):
        # Heaps are compared and have no order, so only what cannot be an object of a class is sorted.
        for place, node in self.nodes():
            if isinstance(node, ast.Call) and isinstance(node.func, ast.Name) and node.func.id == "sorted":
                self.assertEqual(node.args[0].func.id, "set", place)
            if isinstance(node, ast.Name):
                self.assertNotIn(node.id, ("min", "max", "reversed"), place)

    def called_by_operators(self):
        """The functions that stand behind operators and properties, found by their names."""
        bodies, left = {}, []
        for place, node in self.nodes():
            if isinstance(node, ast.ClassDef):
                bodies.setdefault(node.name, []).extend(
                    [item for item in node.body if getattr(item, "name", "") == "__init__"])
            if isinstance(node, ast.FunctionDef):
                bodies.setdefault(node.name, []).append(node)
                held = {item.id for item in node.decorator_list}
                if node.name in DUNDERS - IN_PLACE or "property" in held:
                    left.append(node)
        found = []
        while left:
            body = left.pop()
            if body not in found:
                found.append(body)
                for node in ast.walk(body):
                    if isinstance(node, ast.Call):
                        name = getattr(node.func, "id", getattr(node.func, "attr", ""))
                        left.extend(bodies.get(name, []))
        return found

    def test_operators_change_nothing(self):
        names = [body.name for body in self.called_by_operators()]
        for name in ("__contains__", "rows", "forms_in", "table", "derivations", "can_make", "form"):
            self.assertIn(name, names)
        for body in self.called_by_operators():
            made = {target.id for node in ast.walk(body) if isinstance(node, ast.Assign) and makes_new(node.value)
                    for target in node.targets if isinstance(target, ast.Name)}
            for node in ast.walk(body):
                place = (body.name, getattr(node, "lineno", 0))
                self.assertNotIsInstance(node, (ast.AugAssign, ast.Delete), place)
                if isinstance(node, ast.Call) and getattr(node.func, "attr", "") in MODIFYING:
                    self.assertIn(getattr(node.func.value, "id", ""), made, place)
                if isinstance(node, ast.Subscript) and isinstance(node.ctx, ast.Store):
                    self.assertIn(getattr(node.value, "id", ""), made, place)
                if isinstance(node, ast.Attribute) and isinstance(node.ctx, ast.Store):
                    self.assertEqual(body.name, "__init__", place)

    def test_methods_and_attributes(self):
        methods, stored, read, called, properties = set(), set(), set(), set(), set()
        for place, node in self.nodes():
            if isinstance(node, ast.ClassDef):
                methods |= {item.name for item in node.body if isinstance(item, ast.FunctionDef)}
                properties |= {item.name for item in node.body if isinstance(item, ast.FunctionDef)
                               and "property" in {held.id for held in item.decorator_list}}
            if isinstance(node, ast.Attribute):
                (stored if isinstance(node.ctx, ast.Store) else read).add(node.attr)
            if isinstance(node, ast.Call) and isinstance(node.func, ast.Attribute):
                called.add(node.func.attr)
        self.assertEqual(methods & stored, set())
        self.assertLessEqual(called, methods - properties | METHODS)
        self.assertLessEqual(read, stored | called | properties)
        self.assertEqual(properties & METHODS, set())


if __name__ == "__main__":
    unittest.main()
