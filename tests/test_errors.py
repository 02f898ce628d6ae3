"""The errors: their classes, parents, parameters and attributes."""

import unittest

from openroads import errors
from openroads.letters import Letter

PARAMETERS = {
    "BadAtom": "text",
    "BadForm": "path",
    "BadKey": "key",
    "BadText": "line",
    "BadHeap": "index",
    "BadRecipe": None,
    "NoWay": "step",
    "BadHeaps": None,
    "BadRole": "field",
    "NotFit": "index",
    "BadBook": "field",
    "BadSitting": "index",
    "NoSitting": "number",
    "NotPlain": None,
    "NotWaiting": "number",
    "NotHeld": None,
    "NoMatch": None,
    "NotDone": "place",
    "BadFilling": None,
    "BadWishes": "index",
    "BadGoal": None,
    "BadCommand": None,
}

THINGS = ["x", "", 0, -3, None, (), (1, 2), [1, [2]], {"a": 1}, object(), ValueError("x"), Letter("a")]


class Errors(unittest.TestCase):

    def test_there_are_twenty_two(self):
        self.assertEqual(len(PARAMETERS), 22)
        found = {name for name, thing in vars(errors).items() if isinstance(thing, type)}
        self.assertEqual(found, set(PARAMETERS) | {"RoadError"})

    def test_road_error_is_a_value_error(self):
        self.assertEqual(errors.RoadError.__bases__, (ValueError,))

    def test_each_is_directly_under_road_error(self):
        for name in PARAMETERS:
            with self.subTest(name):
                self.assertEqual(getattr(errors, name).__bases__, (errors.RoadError,))

    def test_none_is_below_another(self):
        for name in PARAMETERS:
            for other in PARAMETERS:
                if name != other:
                    self.assertFalse(issubclass(getattr(errors, name), getattr(errors, other)))

    def test_each_is_defined_there(self):
        for name in list(PARAMETERS) + ["RoadError"]:
            self.assertEqual(getattr(errors, name).__module__, "openroads.errors")

    def test_attributes_by_place_and_by_name(self):
        for name, parameter in PARAMETERS.items():
            if parameter is None:
                continue
            kind = getattr(errors, name)
            for thing in THINGS:
                with self.subTest(name, thing=thing):
                    self.assertIs(getattr(kind(thing), parameter), thing)
                    self.assertIs(getattr(kind(**{parameter: thing}), parameter), thing)

    def test_parameters_are_needed(self):
        for name, parameter in PARAMETERS.items():
            if parameter is not None:
                with self.assertRaises(TypeError, msg=name):
                    getattr(errors, name)()

    def test_those_without_parameters(self):
        for name, parameter in PARAMETERS.items():
            if parameter is None:
                error = getattr(errors, name)()
                self.assertIs(type(error), getattr(errors, name))
                self.assertEqual(vars(error), {})

    def test_each_can_be_raised_and_caught(self):
        for name, parameter in PARAMETERS.items():
            kind = getattr(errors, name)
            error = kind() if parameter is None else kind(**{parameter: "x"})
            for caught in (kind, errors.RoadError, ValueError):
                with self.assertRaises(caught) as held:
                    raise error
                self.assertIs(held.exception, error)


if __name__ == "__main__":
    unittest.main()
