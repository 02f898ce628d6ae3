"""The narrowest filling."""

import itertools
import random
import unittest

from openroads.fillings import followed, narrowest
from openroads.letters import Letter

read = Letter.read


def paired(*texts):
    """A list of pairs of letters from texts, two for each pair."""
    return [(read(one), read(other)) for one, other in zip(texts[::2], texts[1::2])]


def unknowns_of(pairs):
    return sorted({unknown for pair in pairs for letter in pair for unknown in letter.unknowns()})


class Checks(unittest.TestCase):

    def assert_good(self, pairs, found):
        """All that can be told of a filling without other fillings."""
        self.assertIs(type(found), dict)
        known = unknowns_of(pairs)
        for one, other in pairs:
            self.assertEqual(one.filled(found), other.filled(found))
        for unknown, letter in found.items():
            self.assertIn(unknown, known)
            self.assertIsInstance(letter, Letter)
            for inner in letter.unknowns():
                self.assertIn(inner, known)
                self.assertNotIn(inner, found)

    def assert_narrow(self, pairs, found, plain):
        """A plain filling that makes all pairs equal is the found one and some other one."""
        both = followed(found, plain)
        for unknown in unknowns_of(pairs):
            self.assertEqual(both[unknown], plain[unknown])

    def turned(self, pairs):
        """The same pairs exchanged and in other orders."""
        return [pairs, pairs[::-1], [(other, one) for one, other in pairs],
                [(other, one) if at % 2 else (one, other) for at, (one, other) in enumerate(pairs)][::-1]]


class Narrowest(Checks):

    def check(self, texts, filling):
        """For pairs where just one filling is right."""
        for pairs in self.turned(paired(*texts)):
            before = [(one.written(), other.written()) for one, other in pairs]
            found = narrowest(pairs)
            self.assert_good(pairs, found)
            self.assertEqual({unknown: letter.written() for unknown, letter in found.items()}, filling)
            self.assertEqual(narrowest(pairs=pairs), found)
            self.assertEqual([(one.written(), other.written()) for one, other in pairs], before)

    def check_size(self, texts, many):
        """For pairs where several fillings are right."""
        for pairs in self.turned(paired(*texts)):
            found = narrowest(pairs)
            self.assert_good(pairs, found)
            self.assertEqual(len(found), many)

    def check_none(self, texts):
        for pairs in self.turned(paired(*texts)):
            self.assertIsNone(narrowest(pairs))

    def test_the_empty_list(self):
        self.assertEqual(narrowest([]), {})
        self.assertEqual(narrowest(pairs=[]), {})

    def test_pairs_that_are_equal(self):
        for text in ("a", "A", "?x", "pair(?x, ?y)", "lock(?x, open(?y))", "mark(a)"):
            self.check([text, text], {})
            self.check([text, text, "?z", "?z"], {})
        self.check(["?x", "?x", "?y", "a"], {"y": "a"})

    def test_plain_letters(self):
        plain = ["a", "b", "A", "B", "pair(a, b)", "pair(b, a)", "seal(a, b)", "lock(a, own(b))", "lock(a, open(b))",
                 "mark(a)", "open(a)", "own(a)"]
        for one, other in itertools.permutations(plain, 2):
            self.check_none([one, other])
        for one in plain:
            self.check(["?x", one], {"x": one})

    def test_unknowns_on_both_sides(self):
        self.check(["pair(?x, b)", "pair(a, ?y)"], {"x": "a", "y": "b"})
        self.check(["pair(?x, ?y)", "pair(?y, a)"], {"x": "a", "y": "a"})
        self.check(["pair(?x, ?y)", "pair(mark(?y), a)"], {"x": "mark(a)", "y": "a"})
        self.check(["seal(?x, ?x)", "seal(pair(?y, b), pair(a, ?z))"], {"x": "pair(a, b)", "y": "a", "z": "b"})

    def test_unknowns_that_occur_twice(self):
        self.check(["pair(?x, ?x)", "pair(a, a)"], {"x": "a"})
        self.check_none(["pair(?x, ?x)", "pair(a, b)"])
        self.check(["pair(?x, ?x)", "pair(a, ?y)"], {"x": "a", "y": "a"})
        self.check_none(["?x", "a", "?x", "b"])
        self.check(["?x", "pair(a, ?y)", "?x", "pair(?z, b)"], {"x": "pair(a, b)", "y": "b", "z": "a"})

    def test_unknown_against_unknown(self):
        self.check_size(["?x", "?y"], 1)
        self.check_size(["?x", "?y", "?y", "?x"], 1)
        self.check_size(["?x", "?y", "?y", "?z", "?z", "?x"], 2)
        self.check_size(["pair(?x, ?y)", "pair(?y, ?x)"], 1)
        self.check_size(["?x", "?y", "?z", "mark(?x)"], 2)

    def test_a_part_of_its_own_letter(self):
        for text in ("pair(?x, a)", "pair(a, ?x)", "seal(?x, a)", "seal(a, ?x)", "lock(a, open(?x))", "lock(?x, own(a))",
                     "mark(?x)", "open(?x)", "own(?x)", "pair(?x, ?x)", "mark(mark(?x))"):
            self.check_none(["?x", text])
            self.check_none(["?x", "?y", "?y", text])
            self.check_none(["?y", text, "?y", "?x"])
        self.check_none(["?x", "mark(?y)", "?y", "mark(?x)"])
        self.check_none(["?x", "mark(?y)", "?y", "mark(?z)", "?z", "pair(a, ?x)"])
        self.check_none(["pair(?x, ?y)", "pair(mark(?y), mark(?x))"])
        self.check_none(["mark(?x)", "mark(mark(?x))"])
        self.check_none(["pair(?x, mark(?x))", "pair(?y, ?y)"])

    def test_chains(self):
        self.check(["?a", "?b", "?b", "?c", "?c", "?d", "?d", "k"], {"a": "k", "b": "k", "c": "k", "d": "k"})
        self.check(["?a", "mark(?b)", "?b", "pair(?c, ?d)", "?c", "K", "?d", "mark(?c)"],
                   {"a": "mark(pair(K, mark(K)))", "b": "pair(K, mark(K))", "c": "K", "d": "mark(K)"})
        self.check_none(["?a", "?b", "?b", "?c", "?a", "k", "?c", "m"])
        self.check_none(["?a", "mark(?b)", "?b", "mark(?c)", "?a", "mark(mark(mark(?d)))", "?c", "open(?d)"])

    def test_locks(self):
        self.check(["lock(?x, open(?k))", "lock(a, open(K))"], {"x": "a", "k": "K"})
        self.check_none(["lock(?x, open(?k))", "lock(a, own(K))"])
        self.check(["?o", "open(?k)", "lock(a, open(?k))", "lock(a, open(mark(K)))"],
                   {"o": "open(mark(K))", "k": "mark(K)"})
        self.check(["pair(?k, lock(a, own(?k)))", "pair(pair(b, ?y), lock(?z, own(pair(?y, b))))"],
                   {"k": "pair(b, b)", "y": "b", "z": "a"})
        self.check_none(["?k", "lock(a, open(?k))"])
        self.check_none(["lock(a, open(?k))", "open(?k)"])
        self.check(["lock(a, own(?x))", "lock(a, own(open(?y)))", "?y", "A"], {"x": "open(A)", "y": "A"})

    def test_words_and_unknowns_with_one_text(self):
        self.check(["pair(?x, x)", "pair(y, x)"], {"x": "y"})
        self.check(["?x", "x"], {"x": "x"})
        self.check_none(["x", "X"])

    def test_a_late_fault(self):
        texts = ["?a", "pair(?b, ?b)", "?b", "pair(?c, ?c)", "?c", "pair(?d, ?d)", "?d", "w"]
        full = narrowest(paired(*texts))
        self.assertEqual(len(full["a"]), 15)
        self.check_none(texts + ["?a", "pair(?b, pair(?c, v))"])

    def test_what_returns_is_new(self):
        pairs = paired("?x", "a")
        found = narrowest(pairs)
        found["y"] = read("b")
        self.assertEqual(narrowest(pairs), {"x": read("a")})
        self.assertEqual(len(pairs), 1)


ATOMS = [read(text) for text in ("a", "b", "K", "?x", "?y", "?z")]
PLAIN = [read(text) for text in ("a", "b", "K", "mark(a)", "pair(a, b)", "pair(a, a)", "pair(K, K)", "open(K)", "own(a)",
                                 "mark(mark(a))", "lock(a, open(K))", "pair(mark(a), a)")]


def some_letter(chance, depth):
    """A small letter by chance, with unknowns."""
    if depth == 0 or chance.random() < 0.35:
        return chance.choice(ATOMS)
    make = chance.choice("++*^^~od")
    one = some_letter(chance, depth - 1)
    if make == "~":
        return ~one
    if make == "o":
        return +one
    if make == "d":
        return -one
    other = some_letter(chance, depth - 1)
    if make == "+":
        return one + other
    if make == "*":
        return one * other
    return one ^ chance.choice([+other, -other])


def replaced(form, unknown, by):
    """A form with another one in the place of an unknown, in the plainest way."""
    if form == ("unknown", unknown):
        return by
    if form[0] in ("word", "name", "unknown"):
        return form
    return (form[0],) + tuple(replaced(inner, unknown, by) for inner in form[1:])


def can_be_equal(pairs):
    """Whether some filling makes the forms of all pairs equal: step by step, as the textbooks do it."""
    pairs = list(pairs)
    while pairs:
        one, other = pairs.pop()
        if one == other:
            continue
        if other[0] == "unknown":
            one, other = other, one
        if one[0] == "unknown":
            if replaced(other, one[1], None) != other:
                return False
            pairs = [tuple(replaced(form, one[1], other) for form in pair) for pair in pairs]
        elif one[0] != other[0] or one[0] in ("word", "name"):
            return False
        else:
            pairs.extend(zip(one[1:], other[1:]))
    return True


class ByChance(Checks):

    def test_against_the_textbook(self):
        chance = random.Random(1)
        counts = {True: 0, False: 0}
        for turn in range(3000):
            many = chance.randint(1, 4)
            pairs = [(some_letter(chance, 3), some_letter(chance, 3)) for at in range(many)]
            if chance.random() < 0.6:
                # Two letters of one make, so that more of them can be equal.
                pairs = [(one, one.filled({"x": some_letter(chance, 1), "z": read("?y")})) for one, other in pairs]
            found = narrowest(pairs)
            able = can_be_equal([(one.form(), other.form()) for one, other in pairs])
            counts[able] += 1
            self.assertIs(found is not None, able)
            if found is not None:
                self.assert_good(pairs, found)
            for other_pairs in self.turned(pairs):
                again = narrowest(other_pairs)
                self.assertIs(again is None, found is None)
                if again is not None:
                    self.assert_good(pairs, again)
                    self.assertEqual(len(again), len(found))
        self.assertGreater(min(counts.values()), 500)

    def test_every_plain_filling_follows(self):
        chance = random.Random(2)
        fillings = [dict(zip("xyz", chosen)) for chosen in itertools.product(PLAIN, repeat=3)]
        met = 0
        for turn in range(60):
            one = some_letter(chance, 2)
            pairs = [(one, one.filled({"x": some_letter(chance, 1)})), (some_letter(chance, 1), read("?z"))]
            found = narrowest(pairs)
            for plain in fillings:
                if any(one.filled(plain) != other.filled(plain) for one, other in pairs):
                    continue
                met += 1
                self.assertIsNotNone(found)
                self.assert_narrow(pairs, found, plain)
        self.assertGreater(met, 1000)


if __name__ == "__main__":
    unittest.main()
