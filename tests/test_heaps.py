"""Heaps: what can be made of them, their opened parts, and what is done with them (points 11, 13, 27)."""

import random
import unittest

import oracle
from openroads.errors import BadHeap
from openroads.heaps import Heap
from openroads.letters import Letter

read = Letter.read


def heap_of(*texts):
    return Heap([read(text) for text in texts])


def texts(letters):
    return [letter.written() for letter in letters]


class Making(unittest.TestCase):

    def check(self, heap, can, cannot):
        """What can be made has a recipe that makes it; what cannot has none."""
        held = heap_of(*heap)
        for text in can:
            letter = read(text)
            self.assertIs(letter in held, True, (heap, text))
            self.assertEqual(held.run(held.recipe(letter)), letter, (heap, text))
            self.assertEqual(held.run(recipe=held.recipe(letter=letter)), letter)
        for text in cannot:
            self.assertIs(read(text) in held, False, (heap, text))
            self.assertIsNone(held.recipe(read(text)), (heap, text))
        self.assertEqual(texts(held.letters()), list(heap))

    def test_the_empty_heap(self):
        self.check([], ["a", "word", "pair(a, b)", "seal(a, b)", "lock(a, open(b))", "mark(a)", "open(a)",
                        "open(open(mark(a)))", "lock(pair(a, a), open(open(a)))"],
                   ["K", "own(a)", "lock(a, own(a))", "mark(K)", "pair(a, own(a))", "seal(a, K)", "open(own(a))"])

    def test_each_kind_is_put_together(self):
        self.check(["K", "own(M)"],
                   ["K", "own(M)", "pair(K, a)", "pair(a, K)", "seal(K, a)", "seal(a, K)", "lock(K, open(K))",
                    "lock(K, own(M))", "mark(own(M))", "open(K)", "open(own(M))", "lock(a, open(own(M)))"],
                   ["M", "own(K)", "open(M)", "pair(K, M)", "pair(M, K)", "seal(M, K)", "seal(K, M)", "lock(M, own(M))",
                    "lock(K, open(M))", "lock(K, own(K))", "mark(M)", "open(open(M))", "own(own(M))", "own(a)"])

    def test_each_kind_is_taken_apart(self):
        self.check(["pair(K, M)"], ["K", "M", "pair(M, K)"], ["N", "own(K)"])
        self.check(["seal(K, M)"], ["seal(K, M)"], ["K", "M", "mark(K)"])
        self.check(["seal(K, M)", "M"], ["K", "M"], ["own(M)"])
        self.check(["seal(K, M)", "K"], ["K"], ["M"])
        self.check(["mark(K)"], ["mark(K)", "mark(mark(K))"], ["K"])
        self.check(["open(K)"], ["open(K)", "lock(a, open(K))"], ["K", "own(K)"])
        self.check(["own(K)"], ["own(K)", "lock(a, own(K))", "open(own(K))"], ["K", "open(K)"])

    def test_names_and_own_keys_cannot_be_made_up(self):
        self.check(["mark(K)", "open(K)", "seal(a, K)", "lock(a, open(K))"], ["mark(K)", "a"],
                   ["K", "own(K)", "mark(own(K))", "own(open(K))", "own(mark(K))"])
        self.check(["K"], ["open(K)"], ["own(K)", "lock(a, own(K))"])
        self.check(["a"], ["open(a)"], ["own(a)", "own(b)"])

    def test_locks_are_undone_by_the_partner_both_ways(self):
        self.check(["lock(M, open(K))", "own(K)"], ["M"], ["K", "open(K)"])
        self.check(["lock(M, own(K))", "open(K)"], ["M"], ["K", "own(K)"])
        self.check(["lock(M, open(K))", "open(K)"], [], ["M", "K", "own(K)"])
        self.check(["lock(M, own(K))", "own(K)"], [], ["M", "K", "open(K)"])
        self.check(["lock(M, open(K))", "own(N)"], [], ["M"])
        self.check(["lock(M, own(K))", "open(N)"], [], ["M"])
        self.check(["lock(M, open(open(K)))", "own(K)"], [], ["M"])
        self.check(["lock(M, open(open(K)))", "own(open(K))"], ["M"], [])
        self.check(["lock(M, open(own(K)))", "own(own(K))"], ["M"], [])

    def test_a_lock_whose_partner_can_be_built(self):
        # An open key can be built, an own key cannot.
        self.check(["lock(M, own(K))", "K"], ["M"], ["own(K)"])
        self.check(["lock(M, own(a))"], ["M"], ["own(a)"])
        self.check(["lock(M, own(pair(K, a)))", "K"], ["M"], [])
        self.check(["lock(M, own(own(K)))", "own(K)"], ["M"], ["own(own(K))"])
        self.check(["lock(M, open(K))", "K"], [], ["M"])
        self.check(["lock(M, open(a))"], [], ["M"])

    def test_a_seal_whose_key_comes_out_of_another_seal(self):
        self.check(["seal(M, N)", "seal(N, K)", "K"], ["M", "N"], [])
        self.check(["K", "seal(N, K)", "seal(M, N)"], ["M", "N"], [])
        self.check(["seal(seal(M, N), K)", "pair(K, lock(N, own(a)))"], ["M", "N"], [])
        self.check(["seal(M, N)", "seal(N, M)"], [], ["M", "N"])
        self.check(["seal(M, M)"], [], ["M"])
        self.check(["seal(lock(own(M), open(M)), K)", "K"], ["lock(own(M), open(M))"], ["own(M)"])

    def test_a_seal_whose_key_can_only_be_built(self):
        self.check(["seal(M, pair(mark(K), b))", "K"], ["M"], [])
        self.check(["seal(M, pair(mark(K), b))", "mark(K)"], ["M"], ["K"])
        self.check(["seal(M, lock(a, open(K)))", "open(K)"], ["M"], [])
        self.check(["seal(M, open(open(K)))", "K"], ["M"], [])
        self.check(["seal(M, seal(a, b))"], ["M"], [])
        self.check(["seal(M, own(K))", "K"], [], ["M"])
        self.check(["seal(M, pair(mark(K), b))", "mark(b)"], [], ["M"])

    def test_what_is_built_can_stand_in_what_is_held(self):
        self.check(["seal(K, M)", "mark(M)"], ["pair(seal(K, M), mark(mark(M)))", "seal(seal(K, M), mark(M))"],
                   ["seal(K, mark(M))", "pair(K, mark(M))"])

    def test_things_that_are_no_letters(self):
        for thing in (None, "a", "K", 0, ("name", "K")):
            self.assertIs(thing in heap_of("K"), False)

    def test_against_the_oracle(self):
        maker = oracle.Maker(random.Random(5))
        for turn in range(400):
            forms = maker.heap(6)
            wanted = [maker.letter() for at in range(4)] + maker.pool
            held = Heap([Letter.of(form) for form in forms])
            can = oracle.made_of(forms, wanted)
            for form in wanted:
                self.assertIs(Letter.of(form) in held, form in can, (forms, form))
                recipe = held.recipe(Letter.of(form))
                self.assertEqual(recipe is not None, form in can, (forms, form))
                if recipe is not None:
                    self.assertEqual(oracle.run(forms, recipe), form)
            self.assertEqual([letter.form() for letter in held.parts()], sorted(oracle.opened(forms)))

    def test_what_can_be_made_stays_so(self):
        maker = oracle.Maker(random.Random(6))
        for turn in range(60):
            held = Heap([Letter.of(form) for form in maker.heap(4)])
            before = [letter for letter in map(Letter.of, maker.pool) if letter in held] + held.parts()
            held += Letter.of(maker.letter())
            for letter in before:
                self.assertIn(letter, held)

    def test_the_fact_of_point_11(self):
        maker = oracle.Maker(random.Random(7))
        for turn in range(60):
            held = Heap([Letter.of(form) for form in maker.heap(4)])
            parts = held.parts()
            for letter in [Letter.of(maker.letter()) for at in range(6)]:
                form = letter.form()
                inner = [Letter.of(part) for part in form[1:]] if form[0] not in ("word", "name") else []
                built = form[0] in ("pair", "seal", "lock", "mark", "open") and all(part in held for part in inner)
                self.assertIs(letter in held, form[0] == "word" or letter in parts or built)


class Parts(unittest.TestCase):

    def check(self, heap, parts):
        held = heap_of(*heap)
        self.assertEqual(texts(held.parts()), parts)
        self.assertEqual(Heap(held.parts()).parts(), held.parts())
        self.assertEqual(texts(held.letters()), list(heap))

    def test_ascending_and_each_once(self):
        self.check([], [])
        self.check(["b", "K", "a", "b", "K"], ["K", "a", "b"])
        # As Python orders the forms: by the kinds first.
        self.check(["a", "seal(a, K)", "pair(b, a)", "own(M)", "open(M)", "N", "mark(a)", "lock(a, open(N))"],
                   ["lock(a, open(N))", "mark(a)", "N", "open(M)", "own(M)", "pair(b, a)", "seal(a, K)", "a", "b"])
        self.check(["K10", "K9", "K1"], ["K1", "K10", "K9"])
        self.check(["pair(b, a)", "pair(a, c)", "pair(a, b)"],
                   ["pair(a, b)", "pair(a, c)", "pair(b, a)", "a", "b", "c"])

    def test_pairs(self):
        self.check(["pair(pair(K, M), a)"], ["K", "M", "pair(K, M)", "pair(pair(K, M), a)", "a"])

    def test_seals_and_locks(self):
        self.check(["seal(K, M)"], ["seal(K, M)"])
        self.check(["seal(K, M)", "M"], ["K", "M", "seal(K, M)"])
        self.check(["seal(K, mark(b))"], ["K", "seal(K, mark(b))"])
        self.check(["lock(K, own(M))", "M"], ["lock(K, own(M))", "K", "M"])
        self.check(["lock(K, open(M))", "M"], ["lock(K, open(M))", "M"])
        self.check(["lock(K, open(M))", "own(M)"], ["lock(K, open(M))", "K", "own(M)"])

    def test_what_is_only_put_together_is_none(self):
        # The key of a seal is no opened part, nor is what stands in a mark or in a key.
        self.check(["seal(K, pair(a, b))", "mark(a)", "open(a)", "own(b)"],
                   ["mark(a)", "K", "open(a)", "own(b)", "seal(K, pair(a, b))"])
        self.check(["seal(seal(K, M), N)", "seal(K, M)", "M"],
                   ["K", "M", "seal(K, M)", "seal(seal(K, M), N)"])

    def test_chains(self):
        names = [Letter("K" + str(at)) for at in range(40)]
        chain = [names[0]] + [names[at + 1] * names[at] for at in range(39)]
        for letters in (chain, chain[::-1], chain[::2] + chain[1::2]):
            parts = Heap(letters).parts()
            self.assertEqual(parts, sorted(letters + names[1:]))
        self.assertEqual(Heap(chain[1:]).parts(), sorted(chain[1:]))


class Letters(unittest.TestCase):

    def check_bad(self, index, call):
        with self.assertRaises(BadHeap) as held:
            call()
        self.assertEqual(held.exception.index, index)

    def test_the_first_letter_that_is_not_plain(self):
        bad, good = read("seal(a, pair(b, ?x))"), read("a")
        self.check_bad(0, lambda: Heap([bad]))
        self.check_bad(0, lambda: Heap(letters=[bad, good, bad]))
        self.check_bad(2, lambda: Heap([good, good, bad, good, bad]))
        self.check_bad(1, lambda: Heap([good, Letter("?x")]))

    def test_putting_in_what_is_not_plain(self):
        for many in (0, 1, 3):
            letters = [Letter("K" + str(at)) for at in range(many)]
            held = Heap(letters)
            alias = held
            self.check_bad(many, lambda: held + read("mark(?x)"))
            with self.assertRaises(BadHeap) as caught:
                held += read("mark(?x)")
            self.assertEqual(caught.exception.index, many)
            self.assertIs(held, alias)
            self.assertEqual(held.letters(), letters)
            self.assertEqual(len(held), many)

    def test_letters_len_and_numbers(self):
        held = heap_of("b", "a", "pair(K, M)", "a")
        self.assertEqual(texts(held.letters()), ["b", "a", "pair(K, M)", "a"])
        self.assertEqual(len(held), 4)
        self.assertEqual([held[k].written() for k in range(4)], ["b", "a", "pair(K, M)", "a"])
        self.assertEqual(len(Heap([])), 0)
        self.assertEqual(Heap([]).letters(), [])
        for k in (-1, -4):
            with self.assertRaises(IndexError):
                held[k]

    def test_plus_makes_a_new_heap(self):
        held = heap_of("seal(M, K)")
        other = held + read("K")
        self.assertEqual(texts(held.letters()), ["seal(M, K)"])
        self.assertEqual(texts(other.letters()), ["seal(M, K)", "K"])
        self.assertIs(Letter("M") in held, False)
        self.assertIs(Letter("M") in other, True)
        self.assertIsNot(other, held)
        other += read("b")
        self.assertEqual(len(held), 1)

    def test_in_place_changes_the_heap_itself(self):
        held = heap_of("seal(M, K)")
        alias = held
        self.assertIs(Letter("M") in held, False)
        held += read("K")
        self.assertIs(held, alias)
        self.assertEqual(texts(alias.letters()), ["seal(M, K)", "K"])
        self.assertIs(Letter("M") in alias, True)
        self.assertEqual(alias.run(("unseal", ("at", 0), ("at", 1))), Letter("M"))
        self.assertEqual(texts(alias.parts()), ["K", "M", "seal(M, K)"])

    def test_lists_are_new(self):
        letters = [Letter("K")]
        held = Heap(letters)
        letters.append(Letter("M"))
        held.letters().append(Letter("M"))
        held.parts().append(Letter("M"))
        self.assertEqual(texts(held.letters()), ["K"])
        self.assertEqual(texts(held.parts()), ["K"])
        more = [Letter("K")]
        held = Heap(more)
        held += Letter("M")
        self.assertEqual(more, [Letter("K")])

    def test_equality(self):
        self.assertTrue(heap_of("a", "K") == heap_of("a", "K"))
        self.assertFalse(heap_of("a", "K") != heap_of("a", "K"))
        self.assertTrue(Heap([]) == Heap([]))
        for other in (heap_of("K", "a"), heap_of("a"), heap_of("a", "K", "a"), heap_of("a", "M"), Heap([])):
            self.assertFalse(heap_of("a", "K") == other)
            self.assertTrue(heap_of("a", "K") != other)
        self.assertFalse(heap_of("K") == heap_of("K", "K"))
        for other in ([read("a")], (read("a"),), read("a"), "a", None, 0, ["a"]):
            self.assertIs(heap_of("a") == other, False)
            self.assertIs(other == heap_of("a"), False)
        self.assertFalse(Heap([]) == [])
        self.assertIs(heap_of("a") + read("K") == heap_of("a", "K"), True)

    def test_only_letters_are_put_in(self):
        for thing in ("a", None, 1, [read("a")]):
            with self.assertRaises(TypeError):
                heap_of("a") + thing
            with self.assertRaises(TypeError):
                held = heap_of("a")
                held += thing


if __name__ == "__main__":
    unittest.main()
