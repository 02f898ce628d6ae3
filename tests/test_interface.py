"""The interface: each name, its parameters, each class's own methods, each in the file under which it is listed."""

import importlib
import inspect
import unittest

from openroads.errors import RoadError
from openroads.letters import Letter
from openroads.roles import Book, Role

FUNCTIONS = {
    "fillings": {"followed": "one other", "match": "pattern letter", "narrowest": "pairs"},
    "alike": {"alike": "one other", "parting": "one other", "guess": "heap name"},
    "wishes": {"granted": "wishes filling", "answers": "wishes"},
    "seeking": {"reached": "world goal", "seek": "book sittings goal"},
    "texts": {"book_text": "book", "book_read": "text"},
}
CLASSES = {
    ("letters", "Letter", "atom"): {
        "of": "form", "read": "text", "form": "", "written": "", "unknowns": "", "names": "", "filled": "filling"},
    ("heaps", "Heap", "letters"): {"letters": "", "parts": "", "recipe": "letter", "run": "recipe"},
    ("roles", "Role", "title params knows fresh rows"): {},
    ("roles", "Book", "roles known"): {},
    ("worlds", "World", "book sittings"): {
        "give": "sitting letter", "perform": "deeds", "heap": "", "wants": "sitting", "filling": "sitting", "claims": "",
        "gives": "", "twin": "", "undo": "", "trial": "work"},
    ("desk", "Desk", "book sittings"): {"tell": "line"},
}
OPERATORS = {
    "Letter": "add mul xor invert pos neg eq lt le gt ge contains len",
    "Heap": "add iadd getitem len contains eq",
}


def module(name):
    return importlib.import_module("openroads." + name)


def parameters(thing):
    return [name for name in inspect.signature(thing).parameters if name != "self"]


class Interface(unittest.TestCase):

    def test_functions(self):
        for place, functions in FUNCTIONS.items():
            for name, expected in functions.items():
                with self.subTest(name):
                    function = vars(module(place))[name]
                    self.assertTrue(inspect.isfunction(function))
                    self.assertEqual(function.__module__, "openroads." + place)
                    self.assertEqual(function.__name__, name)
                    self.assertEqual(parameters(function), expected.split())

    def test_classes(self):
        for (place, name, expected), methods in CLASSES.items():
            with self.subTest(name):
                kind = vars(module(place))[name]
                self.assertTrue(inspect.isclass(kind))
                self.assertEqual((kind.__module__, kind.__name__), ("openroads." + place, name))
                self.assertEqual(parameters(kind.__init__), expected.split())
                self.assertIn("__init__", vars(kind))
                for method, told in methods.items():
                    self.assertIn(method, vars(kind))
                    self.assertEqual(parameters(getattr(kind, method)), told.split())
                for sign in OPERATORS.get(name, "").split():
                    self.assertIn("__" + sign + "__", vars(kind))

    def test_static_methods(self):
        for name in ("of", "read"):
            self.assertIsInstance(vars(Letter)[name], staticmethod)

    def test_attributes(self):
        role, book = Role("ann", [], [], [], []), Book([], [])
        self.assertEqual((role.title, role.params, role.knows, role.fresh, role.rows), ("ann", [], [], [], []))
        self.assertEqual((book.roles, book.known), ([], []))

    def test_errors(self):
        errors = module("errors")
        for name, thing in vars(errors).items():
            if inspect.isclass(thing) and thing is not RoadError:
                self.assertIs(thing.__base__, RoadError)
                told = parameters(thing.__init__) if "__init__" in vars(thing) else []
                made = thing(*[object() for parameter in told])
                self.assertEqual(list(vars(made)), told)
                self.assertEqual(list(vars(thing(**{parameter: None for parameter in told}))), told)


if __name__ == "__main__":
    unittest.main()
