"""Fillings: filled, followed and match."""

import itertools
import unittest

from openroads.fillings import followed, match
from openroads.letters import Letter

read = Letter.read


def texts(filling):
    """A filling with the texts of its letters."""
    return {unknown: letter.written() for unknown, letter in filling.items()}


class Filled(unittest.TestCase):

    def check(self, text, filling, filled):
        letter = read(text)
        held = {unknown: read(value) for unknown, value in filling.items()}
        self.assertEqual(letter.filled(held), read(filled))
        self.assertEqual(letter.filled(filling=held).written(), filled)
        self.assertEqual(letter.written(), text)
        self.assertEqual(texts(held), filling)

    def test_each_kind(self):
        filling = {"x": "pair(a, K)"}
        for text in ("?x", "pair(?x, b)", "pair(b, ?x)", "seal(?x, b)", "seal(b, ?x)", "lock(?x, open(b))",
                     "lock(b, open(?x))", "lock(b, own(?x))", "mark(?x)", "open(?x)", "own(?x)"):
            self.check(text, filling, text.replace("?x", "pair(a, K)"))

    def test_every_place(self):
        self.check("pair(seal(?x, ?x), lock(mark(?x), own(?x)))", {"x": "a"}, "pair(seal(a, a), lock(mark(a), own(a)))")

    def test_all_at_once(self):
        self.check("pair(?x, ?y)", {"x": "?y", "y": "?x"}, "pair(?y, ?x)")
        self.check("pair(?x, ?y)", {"x": "mark(?y)", "y": "pair(?x, ?y)"}, "pair(mark(?y), pair(?x, ?y))")
        self.check("?x", {"x": "mark(?x)"}, "mark(?x)")
        self.check("pair(?x, ?y)", {"x": "?y", "y": "a"}, "pair(?y, a)")

    def test_the_others_stay(self):
        self.check("pair(?x, pair(?y, ?xy))", {"y": "b"}, "pair(?x, pair(b, ?xy))")
        self.check("pair(?x, ?y)", {}, "pair(?x, ?y)")
        self.check("?x", {"z": "a"}, "?x")

    def test_only_unknowns_are_replaced(self):
        self.check("pair(x, ?x)", {"x": "a"}, "pair(x, a)")
        self.check("mark(mark)", {"mark": "a"}, "mark(mark)")
        self.check("pair(X, word)", {"word": "a", "x": "b"}, "pair(X, word)")

    def test_order_of_the_inner_letters(self):
        self.check("pair(pair(?a, ?b), seal(?c, ?d))", {"a": "w", "b": "x", "c": "y", "d": "z"},
                   "pair(pair(w, x), seal(y, z))")


class Followed(unittest.TestCase):

    def check(self, one, other, both):
        first = {unknown: read(text) for unknown, text in one.items()}
        second = {unknown: read(text) for unknown, text in other.items()}
        self.assertEqual(texts(followed(first, second)), both)
        self.assertEqual(texts(followed(one=first, other=second)), both)
        self.assertEqual(texts(first), one)
        self.assertEqual(texts(second), other)

    def test_first_one_then_the_other(self):
        self.check({"x": "pair(?y, ?z)"}, {"y": "a"}, {"x": "pair(a, ?z)", "y": "a"})
        self.check({"y": "a"}, {"x": "pair(?y, ?z)"}, {"y": "a", "x": "pair(?y, ?z)"})

    def test_what_one_has_counts(self):
        self.check({"x": "a"}, {"x": "b"}, {"x": "a"})
        self.check({"x": "?x"}, {"x": "b"}, {"x": "b"})
        self.check({"x": "?y", "y": "?x"}, {"x": "a", "y": "b"}, {"x": "b", "y": "a"})

    def test_further_unknowns(self):
        self.check({"x": "a"}, {"y": "mark(?x)", "z": "?z"}, {"x": "a", "y": "mark(?x)", "z": "?z"})

    def test_empty(self):
        self.check({}, {}, {})
        self.check({"x": "?y"}, {}, {"x": "?y"})
        self.check({}, {"x": "?y"}, {"x": "?y"})

    def test_it_does_both(self):
        letters = [read(text) for text in ("?x", "?y", "a", "pair(?x, ?y)", "lock(?y, own(?x))", "mark(?z)")]
        fillings = [{}] + [{"x": one, "y": other} for one, other in itertools.product(letters, letters)]
        fillings += [{"z": letter} for letter in letters]
        for one, other in itertools.product(fillings, fillings):
            both = followed(one, other)
            self.assertEqual(set(both), set(one) | set(other))
            for letter in letters:
                self.assertEqual(letter.filled(both), letter.filled(one).filled(other))

    def test_the_dict_is_new(self):
        for one, other in (({"x": read("a")}, {}), ({}, {"x": read("a")}), ({}, {})):
            both = followed(one, other)
            self.assertIs(type(both), dict)
            both["z"] = read("b")
            both.pop("x", None)
            self.assertNotIn("z", one)
            self.assertNotIn("z", other)
            self.assertEqual(followed(one, other), {**one, **other})


class Match(unittest.TestCase):

    def check(self, pattern, letter, filling):
        found = match(read(pattern), read(letter))
        self.assertEqual(texts(found), filling)
        self.assertEqual(texts(match(pattern=read(pattern), letter=read(letter))), filling)
        self.assertEqual(read(pattern).filled(found), read(letter))

    def check_none(self, pattern, letter):
        self.assertIsNone(match(read(pattern), read(letter)))

    def test_unknowns(self):
        self.check("?x", "a", {"x": "a"})
        self.check("?x", "lock(pair(a, K), own(K))", {"x": "lock(pair(a, K), own(K))"})
        self.check("pair(?x, ?y)", "pair(a, mark(b))", {"x": "a", "y": "mark(b)"})
        self.check("pair(a, ?y)", "pair(a, b)", {"y": "b"})

    def test_each_kind(self):
        for text in ("pair(?x, ?y)", "seal(?x, ?y)", "lock(?x, open(?y))", "lock(?x, own(?y))", "pair(mark(?x), ?y)",
                     "pair(open(?x), own(?y))"):
            self.check(text, text.replace("?x", "a").replace("?y", "K"), {"x": "a", "y": "K"})

    def test_an_unknown_that_occurs_twice(self):
        self.check("pair(?x, ?x)", "pair(mark(a), mark(a))", {"x": "mark(a)"})
        self.check_none("pair(?x, ?x)", "pair(a, b)")
        self.check_none("pair(?x, ?x)", "pair(mark(a), mark(b))")
        self.check("seal(pair(?x, ?y), pair(?y, ?x))", "seal(pair(a, b), pair(b, a))", {"x": "a", "y": "b"})
        self.check_none("seal(pair(?x, ?y), pair(?y, ?x))", "seal(pair(a, b), pair(a, b))")
        self.check_none("pair(pair(?x, ?y), ?x)", "pair(pair(a, b), b)")

    def test_plain_patterns(self):
        for text in ("a", "K", "pair(a, b)", "lock(a, own(K))", "mark(a)"):
            self.check(text, text, {})
        for pattern, letter in itertools.permutations(["a", "b", "A", "B", "pair(a, b)", "pair(b, a)", "seal(a, b)",
                                                       "lock(a, own(b))", "lock(a, open(b))", "mark(a)", "open(a)",
                                                       "own(a)", "open(A)"], 2):
            self.check_none(pattern, letter)

    def test_unlike_kinds(self):
        for pattern, letter in itertools.permutations(["pair(?x, b)", "seal(?x, b)", "lock(?x, own(b))", "mark(?x)",
                                                       "open(?x)", "own(?x)", "a", "A"], 2):
            self.check_none(pattern, letter.replace("?x", "a"))

    def test_the_key_of_a_lock(self):
        self.check("lock(a, open(?k))", "lock(a, open(K))", {"k": "K"})
        self.check_none("lock(a, open(?k))", "lock(a, own(K))")
        self.check("pair(?k, lock(a, open(?k)))", "pair(pair(a, b), lock(a, open(pair(a, b))))", {"k": "pair(a, b)"})
        self.check_none("pair(?k, lock(a, open(?k)))", "pair(a, lock(a, open(K)))")

    def test_a_word_with_the_text_of_an_unknown(self):
        self.check("pair(x, ?x)", "pair(x, x)", {"x": "x"})
        self.check_none("pair(x, ?x)", "pair(y, x)")

    def test_all_small_letters(self):
        atoms = [read(text) for text in ("a", "K")]
        patterns = atoms + [read("?x"), read("?y")]
        deeper = patterns + [make(p, q) for p in patterns for q in patterns
                             for make in (lambda p, q: p + q, lambda p, q: p ^ +q)] + [~p for p in patterns]
        plain = [p for p in deeper if not p.unknowns()]
        for pattern, letter in itertools.product([p + q for p in deeper for q in patterns],
                                                 [p + q for p in plain for q in plain]):
            found = match(pattern, letter)
            values = [part for part in (read(text) for text in ("a", "K", "mark(a)", "mark(K)")) if part in letter]
            values += [part for part in plain if part in letter]
            if found is not None:
                self.assertEqual(sorted(found), pattern.unknowns())
                self.assertEqual(pattern.filled(found), letter)
            else:
                for chosen in itertools.product(values, repeat=len(pattern.unknowns())):
                    filling = dict(zip(pattern.unknowns(), chosen))
                    self.assertNotEqual(pattern.filled(filling), letter)

    def test_what_is_passed_stays_and_what_returns_is_new(self):
        pattern, letter = read("pair(?x, ?y)"), read("pair(a, b)")
        found = match(pattern, letter)
        self.assertIs(type(found), dict)
        found.clear()
        self.assertEqual(texts(match(pattern, letter)), {"x": "a", "y": "b"})
        self.assertEqual(pattern.written(), "pair(?x, ?y)")
        self.assertEqual(letter.written(), "pair(a, b)")
        self.assertEqual(match(read("a"), read("a")), {})


if __name__ == "__main__":
    unittest.main()
