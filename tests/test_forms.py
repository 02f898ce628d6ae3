"""Forms, and the paths of what is none."""

import unittest

from openroads.errors import BadForm
from openroads.letters import Letter

W = ("word", "a")
N = ("name", "K1")
U = ("unknown", "x")
OPEN = ("open", N)
OWN = ("own", N)

FORMS = [
    W, N, U,
    ("pair", W, N),
    ("seal", U, W),
    ("seal", W, ("pair", W, U)),
    ("lock", W, OPEN),
    ("lock", W, OWN),
    ("lock", W, ("open", U)),
    ("lock", ("lock", W, OWN), ("own", ("lock", W, OPEN))),
    ("mark", W),
    ("open", U),
    ("own", ("open", ("own", W))),
    ("pair", ("word", "pair"), ("word", "word")),
    ("word", "word"),
    ("unknown", "word"),
]

# What is no form at its own place, whatever stands in it.
BAD_PARTS = [
    None, 0, 7, -1, "", "a", "word", "pair", [], ["word", "a"], ["pair", W, W],
    (), ("word",), ("a",), ("a", "word"), (W,), (W, W), (None,), (0, "a"), (None, "a"), ((), "a"),
    (["word"], "a"), ([], W), (("word",), "a"), ("Word", "a"), ("words", "a"), ("word ", "a"), ("", "a"), ("?x",),
    ("word", "a", "b"), ("name", "A", "B"), ("unknown", "x", "y"), ("name",), ("unknown",),
    ("word", ""), ("word", "A"), ("word", "?x"), ("word", "abcdefghi"), ("word", "a1"), ("word", "a b"),
    ("word", 1), ("word", None), ("word", ()), ("word", ["a"]), ("word", ("a",)), ("word", W), ("word", "\u00e4"),
    ("name", ""), ("name", "a"), ("name", "1A"), ("name", "A1B"), ("name", "ABCDEFGHI"), ("name", 1), ("name", None),
    ("name", "A\u0661"), ("name", ["A"]), ("name", "123"),
    ("unknown", ""), ("unknown", "?x"), ("unknown", "X"), ("unknown", "abcdefgh"), ("unknown", "x1"), ("unknown", 0),
    ("unknown", None), ("unknown", ()),
    ("pair",), ("pair", W), ("pair", W, W, W), ("pair", None), ("pair", None, None, None), ("pair", W, W, None),
    ("seal",), ("seal", W), ("seal", W, W, W), ("lock",), ("lock", W), ("lock", W, OPEN, OPEN), ("lock", None),
    ("mark",), ("mark", W, W), ("mark", None, None), ("open",), ("open", W, W), ("own",), ("own", W, W),
]

# Locks with good inner parts, but for the key.
BAD_LOCKS = [
    ("lock", W, W), ("lock", W, N), ("lock", W, U), ("lock", OPEN, W), ("lock", OWN, ("mark", OPEN)),
    ("lock", W, ("pair", OPEN, OPEN)), ("lock", W, ("seal", W, OPEN)), ("lock", W, ("lock", W, OPEN)),
]

# Each frame leads its filler down along a path.
FRAMES = [
    (lambda part: ("pair", part, W), 1),
    (lambda part: ("pair", W, part), 2),
    (lambda part: ("seal", part, W), 1),
    (lambda part: ("seal", W, part), 2),
    (lambda part: ("lock", part, OPEN), 1),
    (lambda part: ("lock", W, part), 2),
    (lambda part: ("mark", part), 1),
    (lambda part: ("open", part), 1),
    (lambda part: ("own", part), 1),
]


def framed(part, numbers):
    """The part within frames, the outermost first, and its path."""
    path = ()
    for number in reversed(numbers):
        frame, place = FRAMES[number]
        part = frame(part)
        path = (place,) + path
    return part, path


class Forms(unittest.TestCase):

    def assert_fault(self, thing, path):
        with self.assertRaises(BadForm) as held:
            Letter.of(thing)
        self.assertEqual(held.exception.path, path)
        self.assertIs(type(held.exception.path), tuple)

    def test_there_and_back(self):
        for form in FORMS:
            with self.subTest(form=form):
                letter = Letter.of(form)
                self.assertEqual(letter.form(), form)
                self.assertIs(type(letter.form()), tuple)
                self.assertEqual(Letter.of(form=form), letter)

    def test_each_kind_at_depth(self):
        for form in FORMS:
            for number in (0, 1, 2, 3, 4, 6, 7, 8):
                for depth in (1, 5, 19):
                    whole = framed(form, [number] * depth)[0]
                    self.assertEqual(Letter.of(whole).form(), whole)

    def test_example(self):
        self.assert_fault(("pair", ("word", "a"), ("name", "k")), (2,))

    def test_each_fault_as_the_whole(self):
        for part in BAD_PARTS + BAD_LOCKS:
            with self.subTest(part=part):
                self.assert_fault(part, ())

    def test_each_fault_at_each_place(self):
        for part in BAD_PARTS + BAD_LOCKS:
            for number in range(len(FRAMES)):
                with self.subTest(part=part, number=number):
                    self.assert_fault(*framed(part, [number]))

    def test_each_fault_at_two_places_down(self):
        for part in BAD_PARTS + BAD_LOCKS:
            for outer in range(len(FRAMES)):
                for inner in range(len(FRAMES)):
                    thing, path = framed(part, [outer, inner])
                    self.assert_fault(thing, path)

    def test_faults_about_forty_deep(self):
        for part in BAD_PARTS + BAD_LOCKS:
            for number in range(len(FRAMES)):
                with self.subTest(part=part, number=number):
                    self.assert_fault(*framed(part, [number] * 39))
        self.assert_fault(*framed(None, [0, 3, 4, 6, 7, 8, 5, 1, 2] * 4))

    def test_the_outer_fault_comes_first(self):
        self.assert_fault(("pair", None), ())
        self.assert_fault(("pairs", None, None), ())
        self.assert_fault(["pair", None, None], ())
        self.assert_fault(("mark", ("pair", None)), (1,))
        self.assert_fault(("lock", None, W, W), ())

    def test_the_left_fault_comes_first(self):
        self.assert_fault(("pair", None, None), (1,))
        self.assert_fault(("pair", W, None), (2,))
        self.assert_fault(("pair", ("mark", ("mark", None)), None), (1, 1, 1))
        self.assert_fault(("seal", ("pair", W, None), None), (1, 2))
        self.assert_fault(("pair", ("pair", W, None), ("pair", None, W)), (1, 2))

    def test_a_lock_comes_behind_its_inner_parts(self):
        self.assert_fault(("lock", None, W), (1,))
        self.assert_fault(("lock", W, None), (2,))
        self.assert_fault(("lock", W, ("word", "A")), (2,))
        self.assert_fault(("lock", W, ("mark", None)), (2, 1))
        self.assert_fault(("lock", W, ("open", None)), (2, 1))
        self.assert_fault(("lock", ("pair", W, None), W), (1, 2))
        self.assert_fault(("lock", ("lock", W, W), W), (1,))
        self.assert_fault(("lock", W, ("lock", W, W)), (2,))
        self.assert_fault(("lock", W, ("lock", W, OPEN)), ())
        self.assert_fault(("lock", ("lock", W, OPEN), ("open", ("lock", W, U))), (2, 1))

    def test_a_lock_comes_ahead_of_what_stands_behind_it(self):
        self.assert_fault(("pair", ("lock", W, W), None), (1,))
        self.assert_fault(("pair", None, ("lock", W, W)), (1,))
        self.assert_fault(("pair", ("mark", ("lock", W, W)), ("lock", W, None)), (1, 1))
        self.assert_fault(("pair", ("lock", W, OPEN), ("lock", W, W)), (2,))

    def test_what_is_passed_stays(self):
        inner = ["pair", [1, None], "a"]
        self.assert_fault(("pair", W, inner), (2,))
        self.assert_fault(inner, ())
        self.assertEqual(inner, ["pair", [1, None], "a"])


if __name__ == "__main__":
    unittest.main()
