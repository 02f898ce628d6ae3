"""Operators, parts, equality and order of letters."""

import itertools
import operator
import unittest

from openroads.errors import BadKey
from openroads.letters import Letter

SAMPLE_TEXTS = [
    "a", "b", "ab", "A", "B", "K0", "K1", "?a", "?x", "pair", "zz",
    "pair(a, b)", "pair(a, a)", "pair(b, a)", "pair(A, ?x)", "pair(pair(a, b), b)", "pair(a, pair(b, b))",
    "seal(a, b)", "seal(b, a)", "seal(A, K1)", "seal(pair(a, ?x), mark(K1))",
    "lock(a, open(A))", "lock(a, own(A))", "lock(A, open(?x))", "lock(lock(a, open(A)), own(open(b)))",
    "mark(a)", "mark(mark(a))", "mark(?x)", "open(a)", "open(A)", "open(own(A))", "own(a)", "own(?x)", "own(open(A))",
]
SAMPLES = [Letter.read(text) for text in SAMPLE_TEXTS]
OTHER_THINGS = [None, 0, 1, "a", "", ("word", "a"), ["word", "a"], (), [], {}, b"a", object()]


class Operators(unittest.TestCase):

    def setUp(self):
        self.a = Letter("a")
        self.k = Letter("K")
        self.x = Letter("?x")

    def test_each_operator(self):
        a, k = self.a, self.k
        word, name = ("word", "a"), ("name", "K")
        self.assertEqual((a + k).form(), ("pair", word, name))
        self.assertEqual((k + a).form(), ("pair", name, word))
        self.assertEqual((a * k).form(), ("seal", word, name))
        self.assertEqual((k * a).form(), ("seal", name, word))
        self.assertEqual((~a).form(), ("mark", word))
        self.assertEqual((+a).form(), ("open", word))
        self.assertEqual((-a).form(), ("own", word))
        self.assertEqual((a ^ +k).form(), ("lock", word, ("open", name)))
        self.assertEqual((a ^ -k).form(), ("lock", word, ("own", name)))

    def test_operators_of_all_samples(self):
        for one, other in itertools.product(SAMPLES, SAMPLES):
            self.assertEqual((one + other).form(), ("pair", one.form(), other.form()))
            self.assertEqual((one * other).form(), ("seal", one.form(), other.form()))
            self.assertEqual((one ^ +other).form(), ("lock", one.form(), ("open", other.form())))
            self.assertEqual((one ^ -other).form(), ("lock", one.form(), ("own", other.form())))

    def test_how_they_bind(self):
        a, k = self.a, self.k
        self.assertEqual(a + k ^ +k, (a + k) ^ +k)
        self.assertEqual(a + a * k, a + (a * k))
        self.assertEqual(a + k + a, (a + k) + a)

    def test_bad_keys(self):
        for key in SAMPLES:
            if key.form()[0] in ("open", "own"):
                self.assertEqual((self.a ^ key).form(), ("lock", ("word", "a"), key.form()))
                continue
            with self.assertRaises(BadKey) as held:
                self.a ^ key
            self.assertIs(held.exception.key, key)

    def test_the_operands_stay(self):
        a, k = self.a, +self.k
        results = [a + k, a * k, a ^ k, ~a, +a, -a, k + a, k * a]
        self.assertEqual(a.form(), ("word", "a"))
        self.assertEqual(k.form(), ("open", ("name", "K")))
        self.assertEqual(len({result.written() for result in results}), 8)
        with self.assertRaises(BadKey):
            k ^ a
        self.assertEqual(a, Letter("a"))
        self.assertEqual(k, Letter.read("open(K)"))

    def test_in_place_signs_make_new_letters(self):
        for sign, key in ((operator.iadd, self.k), (operator.imul, self.k), (operator.ixor, +self.k)):
            held = self.a
            made = sign(held, key)
            self.assertEqual(held, Letter("a"))
            self.assertNotEqual(made, held)

    def test_only_letters_are_joined(self):
        for thing in OTHER_THINGS:
            for sign in (operator.add, operator.mul, operator.xor):
                with self.assertRaises(TypeError):
                    sign(self.a, thing)

    def test_there_is_no_chance(self):
        a, k = self.a, self.k
        self.assertEqual(a * k, Letter("a") * Letter("K"))
        self.assertEqual(a ^ +k, Letter("a") ^ +Letter("K"))
        self.assertEqual(~a, ~Letter("a"))
        self.assertNotEqual(a ^ +k, a ^ -k)


class Equality(unittest.TestCase):

    def test_equal_just_if_the_forms_are(self):
        for one, other in itertools.product(SAMPLES, SAMPLES):
            same = one.form() == other.form()
            self.assertIs(one == other, same)
            self.assertIs(one != other, not same)

    def test_letters_made_apart_are_equal(self):
        for text in SAMPLE_TEXTS:
            self.assertEqual(Letter.read(text), Letter.of(Letter.read(text).form()))
        self.assertEqual(Letter("a") + Letter("K") ^ -Letter("?x"), Letter.read("lock(pair(a, K), own(?x))"))

    def test_a_letter_equals_nothing_else(self):
        for letter in SAMPLES:
            for thing in OTHER_THINGS + [letter.form(), letter.written(), [letter], letter.form()[1]]:
                self.assertIs(letter == thing, False)
                self.assertIs(thing == letter, False)
                self.assertIs(letter != thing, True)


class Order(unittest.TestCase):

    def test_the_order_of_the_forms(self):
        for one, other in itertools.product(SAMPLES, SAMPLES):
            self.assertIs(one < other, one.form() < other.form())
            self.assertIs(one <= other, one.form() <= other.form())
            self.assertIs(one > other, one.form() > other.form())
            self.assertIs(one >= other, one.form() >= other.form())

    def test_kinds_come_by_their_words(self):
        kinds = ["lock(a, open(A))", "mark(a)", "A", "open(a)", "own(a)", "pair(a, b)", "seal(a, b)", "?a", "a"]
        letters = [Letter.read(text) for text in kinds]
        self.assertEqual([letter.written() for letter in sorted(reversed(letters))], kinds)

    def test_sorted(self):
        forms = sorted([letter.form() for letter in SAMPLES])
        self.assertEqual([letter.form() for letter in sorted(SAMPLES[::-1])], forms)

    def test_nothing_else_has_an_order_with_it(self):
        for thing in OTHER_THINGS:
            for compare in (operator.lt, operator.le, operator.gt, operator.ge):
                with self.assertRaises(TypeError):
                    compare(Letter("a"), thing)

    def test_the_methods_stand_in_the_class(self):
        listed = [
            "of", "read", "form", "written", "unknowns", "names", "filled", "__add__", "__mul__", "__xor__",
            "__invert__", "__pos__", "__neg__", "__eq__", "__lt__", "__le__", "__gt__", "__ge__", "__contains__",
            "__len__",
        ]
        for name in listed:
            self.assertIn(name, vars(Letter))
        self.assertIsInstance(vars(Letter)["of"], staticmethod)
        self.assertIsInstance(vars(Letter)["read"], staticmethod)


def parts_of(form):
    """All forms that stand in a form."""
    inner = [] if form[0] in ("word", "name", "unknown") else form[1:]
    return [form] + [part for one in inner for part in parts_of(one)]


class Parts(unittest.TestCase):

    def test_len(self):
        lens = {
            "a": 1, "K1": 1, "?x": 1, "pair(a, b)": 3, "pair(a, a)": 3, "seal(a, K)": 3, "lock(a, own(K))": 4,
            "mark(a)": 2, "open(a)": 2, "own(a)": 2, "pair(pair(a, a), pair(a, a))": 7,
            "lock(lock(a, open(A)), own(open(b)))": 8,
        }
        for text, many in lens.items():
            self.assertEqual(len(Letter.read(text)), many)

    def test_len_of_all_samples(self):
        for letter in SAMPLES:
            self.assertEqual(len(letter), len(parts_of(letter.form())))

    def test_in(self):
        for one, other in itertools.product(SAMPLES, SAMPLES):
            self.assertIs(one in other, one.form() in parts_of(other.form()))

    def test_keys_are_parts(self):
        a, k, m = Letter("a"), Letter("K"), Letter("M")
        self.assertIs(k in a * k, True)
        self.assertIs(m in a * k, False)
        self.assertIs(+k in a ^ +k, True)
        self.assertIs(k in a ^ +k, True)
        self.assertIs(-k in a ^ +k, False)
        self.assertIs(a in ~a, True)
        self.assertIs(~a in a, False)
        self.assertIs(k in -(+(~(a * k))), True)

    def test_a_letter_is_a_part_of_itself(self):
        for letter in SAMPLES:
            self.assertIs(letter in letter, True)
            self.assertIs(Letter.read(letter.written()) in letter, True)

    def test_a_word_is_no_part_by_its_text_alone(self):
        self.assertIs(Letter("x") in ~Letter("?x"), False)
        self.assertIs(Letter("mark") in ~Letter("a"), False)
        self.assertIs(Letter("word") in ~Letter("a"), False)

    def test_unknowns(self):
        letter = Letter.read("pair(seal(?z, ?a), lock(pair(?b, ?a), open(?y)))")
        self.assertEqual(letter.unknowns(), ["a", "b", "y", "z"])
        self.assertEqual(Letter("?x").unknowns(), ["x"])
        self.assertEqual(Letter("x").unknowns(), [])
        self.assertEqual(Letter("X").unknowns(), [])
        self.assertEqual(Letter.read("pair(x, pair(?ab, ?b))").unknowns(), ["ab", "b"])

    def test_names(self):
        letter = Letter.read("pair(seal(K10, K2), lock(pair(B, K10), own(A)))")
        self.assertEqual(letter.names(), ["A", "B", "K10", "K2"])
        self.assertEqual(Letter("X").names(), ["X"])
        self.assertEqual(Letter("x").names(), [])
        self.assertEqual(Letter("?x").names(), [])

    def test_returned_lists_are_new(self):
        letter = Letter.read("pair(pair(?x, K), pair(?y, A))")
        unknowns, names = letter.unknowns(), letter.names()
        self.assertIs(type(unknowns), list)
        self.assertIs(type(names), list)
        unknowns.append("z")
        names.clear()
        self.assertEqual(letter.unknowns(), ["x", "y"])
        self.assertEqual(letter.names(), ["A", "K"])
        self.assertEqual(letter.written(), "pair(pair(?x, K), pair(?y, A))")


if __name__ == "__main__":
    unittest.main()
