"""Recipes, and what they make (point 12)."""

import random
import unittest

import oracle
from openroads.errors import BadRecipe, NoWay
from openroads.heaps import Heap
from openroads.letters import Letter

read = Letter.read

HEAP = ["pair(K, M)", "seal(N, K)", "lock(N, open(K))", "lock(M, own(K))", "own(K)", "open(K)", "K", "a"]
PAIR, SEAL, LOCK, OWN_LOCK, OWN, OPEN, NAME, WORD = [("at", k) for k in range(8)]


def heap():
    return Heap([read(text) for text in HEAP])


class Working(unittest.TestCase):

    def check(self, recipe, text):
        self.assertEqual(heap().run(recipe).written(), text)
        self.assertEqual(heap().run(recipe=recipe), read(text))

    def test_each_kind(self):
        for k, text in enumerate(HEAP):
            self.check(("at", k), text)
        self.check(("word", "abcdefgh"), "abcdefgh")
        self.check(("first", PAIR), "K")
        self.check(("second", PAIR), "M")
        self.check(("unseal", SEAL, NAME), "N")
        self.check(("unlock", LOCK, OWN), "N")
        self.check(("unlock", OWN_LOCK, OPEN), "M")
        self.check(("pair", NAME, WORD), "pair(K, a)")
        self.check(("seal", NAME, WORD), "seal(K, a)")
        self.check(("lock", NAME, OPEN), "lock(K, open(K))")
        self.check(("lock", NAME, OWN), "lock(K, own(K))")
        self.check(("mark", NAME), "mark(K)")
        self.check(("open", NAME), "open(K)")

    def test_recipes_within_recipes(self):
        self.check(("unseal", SEAL, ("first", PAIR)), "N")
        self.check(("unlock", OWN_LOCK, ("open", ("first", PAIR))), "M")
        self.check(("unseal", ("seal", ("mark", NAME), ("pair", WORD, NAME)), ("pair", WORD, ("first", PAIR))), "mark(K)")
        self.check(("unlock", ("lock", WORD, ("open", NAME)), OWN), "a")
        self.check(("first", ("pair", ("second", PAIR), WORD)), "M")
        self.check(("second", ("pair", ("second", PAIR), WORD)), "a")
        self.check(("pair", ("pair", ("word", "a"), ("word", "b")), ("pair", ("word", "c"), ("word", "d"))),
                   "pair(pair(a, b), pair(c, d))")

    def test_against_the_oracle(self):
        chance = random.Random(8)
        maker = oracle.Maker(chance)

        def recipe(depth):
            kind = chance.choice(["at", "at", "word"] if depth == 0 else [
                "at", "word", "first", "second", "unseal", "unseal", "unlock", "unlock", "pair", "seal", "lock", "mark",
                "open"])
            if kind == "at":
                return ("at", chance.randint(0, 4))
            if kind == "word":
                return ("word", chance.choice("ab"))
            many = 1 if kind in ("first", "second", "mark", "open") else 2
            return (kind, *[recipe(depth - 1) for turn in range(many)])

        worked = 0
        for turn in range(3000):
            forms = maker.heap(5)
            told = recipe(3)
            expected = oracle.run(forms, told)
            held = Heap([Letter.of(form) for form in forms])
            if expected is None:
                with self.assertRaises(NoWay) as caught:
                    held.run(told)
                self.assertIsNone(oracle.run(forms, caught.exception.step))
                for inner in caught.exception.step[1:] if caught.exception.step[0] != "at" else ():
                    self.assertIsNotNone(oracle.run(forms, inner))
            else:
                worked += 1
                self.assertEqual(held.run(told).form(), expected)
        self.assertGreater(worked, 300)


class Refused(unittest.TestCase):

    def check(self, recipe, step):
        held = heap()
        with self.assertRaises(NoWay) as caught:
            held.run(recipe)
        self.assertEqual(caught.exception.step, step)
        self.assertEqual(held, heap())

    def test_each_kind_that_does_not_work(self):
        for step in (
                ("at", 8), ("at", 9), ("at", -1), ("at", -8), ("at", -9), ("at", 10 ** 30),
                ("first", SEAL), ("first", LOCK), ("first", NAME), ("first", WORD), ("first", ("mark", PAIR)),
                ("second", SEAL), ("second", OWN), ("second", WORD), ("second", ("open", PAIR)),
                ("unseal", PAIR, NAME), ("unseal", LOCK, OWN), ("unseal", LOCK, OPEN), ("unseal", NAME, NAME),
                ("unseal", SEAL, WORD), ("unseal", SEAL, OPEN), ("unseal", SEAL, ("mark", NAME)),
                ("unseal", SEAL, SEAL), ("unseal", ("mark", NAME), NAME),
                ("unlock", PAIR, OWN), ("unlock", SEAL, NAME), ("unlock", LOCK, OPEN), ("unlock", OWN_LOCK, OWN),
                ("unlock", LOCK, NAME), ("unlock", OWN_LOCK, NAME), ("unlock", LOCK, WORD), ("unlock", OWN, OPEN),
                ("unlock", LOCK, LOCK), ("unlock", ("seal", NAME, OPEN), OWN), ("unlock", OWN_LOCK, ("open", WORD)),
                ("lock", NAME, NAME), ("lock", OPEN, WORD), ("lock", NAME, PAIR), ("lock", NAME, ("mark", OPEN)),
                ("lock", NAME, LOCK)):
            self.check(step, step)
            self.check(("mark", step), step)

    def test_the_first_one_from_left_to_right(self):
        one, other = ("first", WORD), ("at", 8)
        for kind in ("pair", "seal", "lock", "unseal", "unlock"):
            self.check((kind, one, other), one)
            self.check((kind, other, one), other)
            self.check((kind, WORD, other), other)
            self.check((kind, other, OPEN), other)
        self.check(("pair", ("pair", WORD, one), other), one)
        self.check(("pair", ("pair", WORD, other), ("pair", one, one)), other)
        self.check(("pair", ("mark", ("mark", one)), other), one)
        self.check(("pair", WORD, ("pair", WORD, other)), other)

    def test_inner_ones_first(self):
        inner = ("unseal", SEAL, WORD)
        self.check(("first", inner), inner)
        self.check(("lock", inner, WORD), inner)
        self.check(("lock", WORD, inner), inner)
        self.check(("unlock", ("first", WORD), ("lock", WORD, WORD)), ("first", WORD))
        self.check(("unseal", ("mark", WORD), ("lock", WORD, WORD)), ("lock", WORD, WORD))
        self.check(("pair", ("lock", NAME, NAME), ("at", -1)), ("lock", NAME, NAME))

    def test_the_empty_heap(self):
        with self.assertRaises(NoWay) as caught:
            Heap([]).run(("at", 0))
        self.assertEqual(caught.exception.step, ("at", 0))
        self.assertEqual(Heap([]).run(("word", "a")), Letter("a"))


BAD = [
    None, 0, "", "at", "word", [], ["at", 0], ["word", "a"], (), ("at",), ("word",), ("at", 0, 0), ("word", "a", "b"),
    ("at", "0"), ("at", None), ("at", ()), ("at", [0]), ("at", WORD), ("at", True), ("at", False),
    ("word", ""), ("word", "A"), ("word", "abcdefghi"),
    ("word", "a1"), ("word", "?x"), ("word", 1), ("word", None), ("word", ["a"]), ("word", ("word", "a")),
    ("name", "K"), ("unknown", "x"), ("own", NAME), ("works", NAME), ("same", NAME, NAME), ("third", PAIR), ("", NAME),
    ("At", 0), ("at ", 0), (None, 0), (0, 0), (("at", 0),), (["at"], 0), ([], 0), ((), 0), (("at", 0), ("at", 0)),
    ("first",), ("first", PAIR, PAIR), ("second",), ("second", PAIR, PAIR), ("unseal",), ("unseal", SEAL),
    ("unseal", SEAL, NAME, NAME), ("unlock", LOCK), ("unlock", LOCK, OWN, OWN), ("pair",), ("pair", NAME),
    ("pair", NAME, NAME, NAME), ("seal", NAME), ("seal", NAME, NAME, NAME), ("lock", NAME), ("lock", NAME, OPEN, OPEN),
    ("mark",), ("mark", NAME, NAME), ("open",), ("open", NAME, NAME),
    ("first", 0), ("first", None), ("first", "a"), ("first", ["at", 0]), ("mark", "K"), ("pair", NAME, None),
    ("pair", None, NAME), ("open", 3),
]


class NoRecipes(unittest.TestCase):

    def check(self, thing):
        held = heap()
        with self.assertRaises(BadRecipe):
            held.run(thing)
        self.assertEqual(held, heap())

    def test_each_kind(self):
        for thing in BAD:
            self.check(thing)

    def test_in_every_place(self):
        for thing in BAD:
            for kind in ("first", "second", "mark", "open"):
                self.check((kind, thing))
            for kind in ("unseal", "unlock", "pair", "seal", "lock"):
                self.check((kind, thing, NAME))
                self.check((kind, NAME, thing))

    def test_behind_a_part_that_does_not_work(self):
        for thing in BAD:
            self.check(("pair", ("at", 99), thing))
            self.check(("pair", thing, ("at", 99)))
            self.check(("lock", ("first", WORD), ("mark", thing)))
            self.check(("unseal", ("pair", ("lock", NAME, NAME), WORD), ("pair", WORD, thing)))

    def test_deep_inside(self):
        for thing in BAD:
            deep = thing
            for turn in range(39):
                deep = ("mark", deep) if turn % 2 else ("pair", ("at", -1), deep)
            self.check(deep)

    def test_letters_are_no_recipes(self):
        self.check(Letter("a"))
        self.check(("mark", Letter("a")))


class Large(unittest.TestCase):

    def test_chains(self):
        names = [Letter("K" + str(at)) for at in range(40)]
        for letters in ([names[0]] + [names[at + 1] * names[at] for at in range(39)],
                        [names[0]] + [names[at + 1] ^ -names[at] for at in range(39)],
                        [names[0]] + [names[at + 1] * +(names[at] + Letter("a")) for at in range(19)]):
            last = names[len(letters) - 1]
            for held in (Heap(letters), Heap(letters[::-1])):
                self.assertEqual(held.run(held.recipe(last)), last)
                self.assertIs(last in held, True)
                self.assertIsNone((Heap(letters[1:])).recipe(last))

    def test_a_recipe_is_not_larger_than_need_be(self):
        names = [Letter("K" + str(at)) for at in range(31)]
        letters = [names[0]] + [names[at + 1] * (names[at] + names[at]) for at in range(30)]
        held = Heap(letters + [names[30] * Letter("M"), Letter("M")])
        self.assertEqual(held.recipe(names[30]), ("unseal", ("at", 31), ("at", 32)))
        held = Heap(letters)
        self.assertIs(names[30] in held, True)
        self.assertEqual(len(held.parts()), 61)

    def test_a_recipe_of_many_tuples(self):
        recipe = ("at", 0)
        for turn in range(99):
            recipe = ("mark", recipe)
        letter = Heap([read("a")]).run(recipe)
        self.assertEqual(letter.written(), "mark(" * 99 + "a" + ")" * 99)
        wide = [("at", 0)] * 50
        while len(wide) > 1:
            wide = [("pair", *wide[at:at + 2]) if len(wide) > at + 1 else wide[at] for at in range(0, len(wide), 2)]
        big = read("pair(" * 19 + "a" + ", b)" * 19)
        self.assertEqual(len(Heap([big]).run(wide[0])), 50 * 39 + 49)

    def test_large_letters_that_are_passed_on(self):
        deep = read("mark(" * 249 + "K" + ")" * 249)
        held = Heap([deep, deep + deep, Letter("M") * deep])
        self.assertEqual(held.run(held.recipe(Letter("M"))), Letter("M"))
        self.assertIs(~deep in held, True)
        self.assertIs(Letter("K") in held, False)
        self.assertEqual(held.parts(), sorted([deep, deep + deep, Letter("M") * deep, Letter("M")]))


if __name__ == "__main__":
    unittest.main()
