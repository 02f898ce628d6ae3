"""What is said of all calls: the limits, and that nothing that is passed is changed."""

import copy
import unittest

from openroads.errors import BadForm, BadText
from openroads.fillings import followed, match, narrowest
from openroads.letters import Letter

read = Letter.read


def tree(atom, depth):
    """A letter in which an atom stands 2 ** depth times."""
    letter = Letter(atom)
    for turn in range(depth):
        letter = letter + letter
    return letter


def chain(atoms):
    """The atoms as pairs in pairs."""
    letter = atoms[-1]
    for atom in atoms[-2::-1]:
        letter = atom + letter
    return letter


def balanced(letters):
    """The letters as pairs in pairs, nested as little as can be."""
    if len(letters) == 1:
        return letters[0]
    half = len(letters) // 2
    return balanced(letters[:half]) + balanced(letters[half:])


def tower(letter, depth):
    """A letter within marks, keys and locks."""
    for turn in range(depth):
        letter = (~letter, -letter, letter * Letter("K"), letter ^ +Letter("K"), Letter("a") + letter)[turn % 5]
    return letter


def unknown(number):
    """The unknown with a number, as a letter."""
    return Letter("?" + "".join(chr(97 + number // 26 ** at % 26) for at in range(3)))


class LargeLetters(unittest.TestCase):

    def letters(self):
        yield tree("a", 6) + tree("?x", 5)
        yield tower(Letter("?x"), 20)
        yield chain([Letter("a")] * 20)
        yield tower(Letter("?x"), 249)
        yield chain([Letter("a"), Letter("?x")] * 125)
        yield tree("?x", 10) + tree("K1", 9)
        yield tower(tree("?x", 10), 238)

    def test_all_methods(self):
        for letter in self.letters():
            form, text = letter.form(), letter.written()
            self.assertEqual(Letter.of(form), letter)
            self.assertEqual(read(text), letter)
            self.assertEqual(read(text).form(), form)
            self.assertLessEqual(len(letter), 4000)
            self.assertIs(letter <= ~letter, form <= ("mark", form))
            self.assertIs(letter in letter, True)
            self.assertIs(Letter("zz") in letter, False)
            self.assertEqual(set(letter.unknowns()) | {"x"}, {"x"})
            self.assertEqual(letter.filled({"x": Letter("b")}).written(), text.replace("?x", "b"))
            self.assertEqual(letter.filled({}), letter)
            self.assertEqual(followed({"x": letter}, {"x": Letter("b")})["x"], letter.filled({"x": Letter("b")}))

    def test_match_and_narrowest(self):
        for letter in self.letters():
            plain = letter.filled({"x": Letter("b")})
            filling = {"x": Letter("b")} if letter.unknowns() else {}
            self.assertEqual(match(letter, plain), filling)
            self.assertEqual(match(Letter("?y"), plain), {"y": plain})
            self.assertIsNone(match(~letter, plain * Letter("b")))
            self.assertEqual(narrowest([(letter, plain)]), filling)
            self.assertEqual(narrowest([(plain, letter), (Letter("?y"), letter)]), {**filling, "y": plain})

    def test_lens(self):
        self.assertEqual(len(tree("a", 6)), 127)
        self.assertEqual(len(tree("a", 10)), 2047)
        self.assertEqual(len(chain([Letter("a")] * 20)), 39)
        self.assertEqual(len(tower(Letter("a"), 5)), 10)
        self.assertEqual(len(tower(Letter("a"), 250)), 451)


class RefusedThings(unittest.TestCase):

    def test_forty_deep(self):
        for bad in (None, (), ["mark", ("word", "a")], ("lock", ("word", "a"), ("word", "b"))):
            form, path = bad, ()
            for turn in range(40):
                form = ("mark", form) if turn % 2 else ("pair", ("word", "a"), form)
                path = ((1,) if turn % 2 else (2,)) + path
            with self.assertRaises(BadForm) as held:
                Letter.of(form)
            self.assertEqual(held.exception.path, path)

    def test_texts_forty_deep(self):
        for inner in ("", "?", "lock(a, b)", "pair(a,b)", "a, b"):
            with self.assertRaises(BadText):
                read("mark(" * 40 + inner + ")" * 40)
            with self.assertRaises(BadText):
                read("pair(a, " * 40 + inner + ")" * 40)

    def test_wide_objects(self):
        with self.assertRaises(BadForm) as held:
            Letter.of(("pair",) + (("word", "a"),) * 4000)
        self.assertEqual(held.exception.path, ())
        with self.assertRaises(BadForm) as held:
            Letter.of(("mark", ("word", 10 ** 400)))
        self.assertEqual(held.exception.path, (1,))


class LargeLists(unittest.TestCase):

    def assert_equal_with(self, pairs, found):
        for one, other in pairs:
            self.assertEqual(one.filled(found), other.filled(found))

    def test_twelve_pairs_that_go_deep(self):
        letters = [unknown(at) for at in range(13)]
        pairs = [(letters[at], tower(letters[at + 1], 19)) for at in range(12)]
        for order in (pairs, pairs[::-1], pairs[::2] + pairs[1::2], [(other, one) for one, other in pairs]):
            found = narrowest(order)
            self.assertEqual(len(found), 12)
            deep = letters[12]
            for at in range(12):
                deep = tower(deep, 19)
            self.assertEqual(letters[0].filled(found), deep)
            self.assert_equal_with(order, found)
        self.assertIsNone(narrowest(pairs[:11] + [(letters[11], tower(letters[0], 19))]))

    def test_twelve_pairs_that_double(self):
        # The letters that come out are too large to be walked through, but not to be told.
        letters = [unknown(at) for at in range(13)]
        pairs = [(letters[at], tree(letters[at + 1].written(), 6)) for at in range(12)]
        found = narrowest(pairs)
        self.assertEqual(len(found), 12)
        self.assert_equal_with(pairs, found)
        self.assertEqual(found[letters[11].form()[1]], pairs[11][1])
        self.assertIsNone(narrowest(pairs[:11] + [(letters[11], ~letters[0])]))

    def test_two_that_double_side_by_side(self):
        left = [unknown(at) for at in range(20)]
        right = [unknown(at + 100) for at in range(20)]
        halves = []
        for side in (left, right):
            ones = balanced(side[:-1])
            others = balanced([after + after for after in side[1:]])
            halves.append((ones, others))
        pairs = halves + [(left[0], right[0])]
        found = narrowest(pairs)
        self.assertEqual(len(found), 39)
        self.assert_equal_with(pairs, found)
        self.assertEqual(left[19].filled(found), right[19].filled(found))
        self.assertIsNone(narrowest(pairs + [(left[19], Letter("a")), (right[19], Letter("b"))]))
        self.assertIsNone(narrowest(pairs + [(left[19], ~right[3])]))
        self.assertIsNone(narrowest([(left[19], ~right[3])] + pairs))

    def test_many_unknowns_in_one_class(self):
        letters = [unknown(at) for at in range(100)]
        pairs = [(balanced(letters), balanced(letters[1:] + letters[:1]))]
        found = narrowest(pairs)
        self.assertEqual(len(found), 99)
        self.assert_equal_with(pairs, found)
        pairs.append((letters[50], Letter("a")))
        self.assertEqual(narrowest(pairs), {letter.form()[1]: Letter("a") for letter in letters})
        self.assertIsNone(narrowest(pairs + [(letters[99], Letter("b"))]))


class NothingChanges(unittest.TestCase):

    def test_letters_in_all_calls(self):
        letter, other = read("pair(?x, lock(?y, own(K)))"), read("pair(a, lock(b, own(K)))")
        forms = copy.deepcopy((letter.form(), other.form()))
        filling = {"x": read("?y"), "y": read("mark(?x)"), "z": read("c")}
        again = {"y": read("a")}
        pairs = [(letter, other), (read("?z"), letter)]
        for call in (lambda: letter + other, lambda: letter * other, lambda: letter ^ +other, lambda: ~letter,
                     lambda: +letter, lambda: -letter, lambda: letter == other, lambda: letter < other,
                     lambda: other in letter, lambda: len(letter), letter.unknowns, letter.names, letter.written,
                     letter.form, lambda: letter.filled(filling), lambda: followed(filling, again),
                     lambda: match(letter, other), lambda: narrowest(pairs)):
            call()
            call()
            self.assertEqual((letter.form(), other.form()), forms)
            self.assertEqual({name: value.written() for name, value in filling.items()},
                             {"x": "?y", "y": "mark(?x)", "z": "c"})
            self.assertEqual(again, {"y": read("a")})
            self.assertEqual([(one.written(), two.written()) for one, two in pairs],
                             [(letter.written(), other.written()), ("?z", letter.written())])

    def test_later_changes_have_no_effect(self):
        filling = {"x": read("a")}
        letter = read("?x").filled(filling)
        both = followed(filling, filling)
        filling["x"] = read("b")
        self.assertEqual(letter, read("a"))
        self.assertEqual(both, {"x": read("a")})
        pairs = [(read("?x"), read("a"))]
        found = narrowest(pairs)
        pairs.clear()
        self.assertEqual(found, {"x": read("a")})


if __name__ == "__main__":
    unittest.main()
