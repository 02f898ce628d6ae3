"""Heaps that are alike, tests that part the others, and guesses (points 14, 15)."""

import random
import time
import unittest

import oracle
from openroads.alike import alike, guess, parting
from openroads.errors import BadHeaps
from openroads.heaps import Heap
from openroads.letters import Letter

read = Letter.read


def heap_of(texts):
    return Heap([read(text) for text in texts])


def forms_of(held):
    return [letter.form() for letter in held.letters()]


class Alike(unittest.TestCase):

    def check_test(self, one, other, test):
        """A test is run on both heaps and parts them."""
        self.assertIs(type(test), tuple)
        self.assertTrue(oracle.parts_them(forms_of(one), forms_of(other), test), test)
        if test[0] == "works":
            worked = []
            for held in (one, other):
                try:
                    held.run(test[1])
                    worked.append(True)
                except ValueError:
                    worked.append(False)
            self.assertEqual(sorted(worked), [False, True])
        else:
            same = [held.run(test[1]) == held.run(test[2]) for held in (one, other)]
            self.assertEqual(sorted(same), [False, True])

    def check_heaps(self, one, other, are_alike):
        before = forms_of(one), forms_of(other)
        for first, second in ((one, other), (other, one)):
            self.assertIs(alike(first, second), are_alike, (forms_of(first), forms_of(second)))
            test = parting(first, second)
            self.assertIs(test is None, are_alike)
            if test is not None:
                self.check_test(first, second, test)
        self.assertEqual((forms_of(one), forms_of(other)), before)

    def check(self, one, other, are_alike):
        self.check_heaps(heap_of(one), heap_of(other), are_alike)


class Examples(Alike):

    def test_those_of_point_14(self):
        k, m = Letter("K"), Letter("M")
        self.check(["open(K)"], ["mark(K)"], False)
        self.check_test(Heap([+k]), Heap([~k]), ("works", ("lock", ("word", "a"), ("at", 0))))
        self.check(["own(K)", "open(K)"], ["own(K)", "open(M)"], False)
        self.check_test(Heap([-k, +k]), Heap([-k, +m]),
                        ("works", ("unlock", ("lock", ("word", "a"), ("at", 0)), ("at", 1))))

    def test_unlike_lengths(self):
        for one, other in ((["K"], []), ([], ["K"]), (["a", "a"], ["a"]), (["K", "M", "N"], ["K", "M"])):
            for call in (alike, parting):
                with self.assertRaises(BadHeaps):
                    call(heap_of(one), heap_of(other))
                with self.assertRaises(BadHeaps):
                    call(one=heap_of(other), other=heap_of(one))

    def test_by_name(self):
        self.assertIs(alike(one=heap_of(["K"]), other=heap_of(["M"])), True)
        self.assertIsNone(parting(one=heap_of(["K"]), other=heap_of(["M"])))


class SameUnderOtherNames(Alike):

    def test_equal_heaps(self):
        for texts in ([], ["K"], ["a", "a", "K"], ["seal(K, M)", "M", "own(K)", "lock(a, open(K))"]):
            self.check(texts, texts, True)

    def test_names_that_stand_open(self):
        self.check(["K"], ["M"], True)
        self.check(["K", "M"], ["M", "K"], True)
        self.check(["K", "K"], ["M", "M"], True)
        self.check(["pair(K, mark(K))"], ["pair(N, mark(N))"], True)
        self.check(["K", "M"], ["K", "K"], False)

    def test_names_inside_keys_and_marks(self):
        self.check(["open(K)", "own(K)"], ["open(M)", "own(M)"], True)
        self.check(["seal(a, K)", "K"], ["seal(a, M)", "M"], True)
        self.check(["lock(a, open(K))", "own(K)"], ["lock(a, open(M))", "own(M)"], True)
        self.check(["mark(pair(K, M))", "K"], ["mark(pair(M, K))", "M"], True)
        self.check(["mark(pair(K, M))", "K", "M"], ["mark(pair(K, M))", "M", "K"], False)

    def test_what_nobody_can_look_into(self):
        self.check(["mark(K)"], ["seal(a, K)"], True)
        self.check(["mark(K)"], ["K"], True)
        self.check(["seal(a, K)"], ["seal(pair(b, N), K)"], True)
        self.check(["lock(K, open(M))"], ["lock(a, own(N))"], True)
        self.check(["open(K)"], ["own(M)"], True)
        self.check(["open(K)", "mark(K)"], ["own(M)", "N"], True)
        self.check(["seal(a, K)", "seal(a, M)"], ["seal(a, K)", "seal(b, K)"], True)


class Unlike(Alike):

    def test_words(self):
        self.check(["a"], ["b"], False)
        self.check(["a"], ["K"], False)
        self.check(["mark(a)"], ["mark(b)"], False)
        self.check(["mark(pair(a, b))"], ["mark(pair(a, K))"], False)
        self.check(["mark(K)"], ["mark(a)"], False)

    def test_kinds(self):
        self.check(["pair(K, M)"], ["seal(K, M)"], False)
        self.check(["pair(K, M)"], ["K"], False)
        self.check(["open(K)"], ["K"], False)
        self.check(["own(K)"], ["seal(K, M)"], False)
        self.check(["open(a)"], ["open(K)"], False)
        self.check(["open(a)"], ["own(a)"], False)
        self.check(["own(a)"], ["own(K)"], False)
        self.check(["seal(a, b)"], ["seal(a, K)"], False)
        self.check(["lock(K, own(a))"], ["lock(K, open(a))"], False)

    def test_a_key_against_none(self):
        self.check(["pair(a, open(K))"], ["pair(a, K)"], False)
        self.check(["seal(own(K), a)"], ["seal(K, a)"], False)

    def test_keys_that_belong_together(self):
        self.check(["open(K)", "own(K)"], ["open(K)", "own(M)"], False)
        self.check(["open(K)", "own(K)"], ["own(K)", "open(K)"], True)
        self.check(["open(K)", "own(K)"], ["open(K)", "open(M)"], False)
        self.check(["own(K)", "open(K)"], ["own(K)", "own(M)"], False)
        self.check(["K", "own(K)"], ["K", "own(M)"], False)
        self.check(["mark(K)", "own(mark(K))"], ["mark(K)", "own(mark(M))"], False)
        self.check(["mark(K)", "own(K)"], ["mark(K)", "own(M)"], True)
        self.check(["own(K)", "own(M)"], ["own(K)", "own(N)"], True)
        self.check(["own(K)", "own(own(K))"], ["own(K)", "own(own(M))"], False)
        self.check(["own(pair(a, b))"], ["own(pair(b, a))"], False)

    def test_equal_letters_against_unlike_ones(self):
        self.check(["mark(K)", "mark(K)"], ["mark(K)", "mark(M)"], False)
        self.check(["pair(K, K)"], ["pair(K, M)"], False)
        self.check(["seal(a, K)", "seal(a, K)"], ["seal(a, K)", "seal(a, M)"], False)
        self.check(["seal(M, K)", "K", "M"], ["seal(N, K)", "K", "M"], False)
        self.check(["seal(M, K)", "M"], ["seal(N, K)", "M"], True)

    def test_what_can_be_opened(self):
        self.check(["seal(a, K)", "K"], ["seal(b, K)", "K"], False)
        self.check(["seal(a, K)", "M"], ["seal(b, K)", "M"], True)
        self.check(["seal(a, K)", "K"], ["seal(a, M)", "K"], False)
        self.check(["lock(a, open(K))", "own(K)"], ["lock(b, open(K))", "own(K)"], False)
        self.check(["lock(a, own(K))", "open(K)"], ["lock(a, own(M))", "open(K)"], False)
        self.check(["lock(a, own(K))", "own(K)"], ["lock(a, own(M))", "own(K)"], False)
        self.check(["lock(M, own(K))", "own(K)"], ["lock(M, own(N))", "own(K)"], True)
        self.check(["lock(N, own(K))", "K"], ["lock(N, own(M))", "K"], False)
        self.check(["seal(seal(a, K), M)", "M"], ["seal(seal(b, K), M)", "M"], True)
        self.check(["seal(seal(a, K), M)", "M", "K"], ["seal(seal(b, K), M)", "M", "K"], False)

    def test_what_can_be_built_again(self):
        self.check(["mark(pair(a, K))", "K"], ["mark(pair(b, K))", "K"], False)
        self.check(["mark(pair(a, K))", "mark(K)"], ["mark(pair(b, K))", "mark(K)"], True)
        self.check(["seal(M, K)", "M"], ["seal(M, a)", "M"], False)
        self.check(["lock(M, open(K))", "M", "open(K)"], ["lock(N, open(K))", "M", "open(K)"], False)
        self.check(["lock(M, open(K))", "M"], ["lock(N, open(K))", "M"], True)
        self.check(["lock(M, open(K))", "M", "K"], ["lock(N, open(K))", "M", "K"], False)
        self.check(["lock(M, open(K))", "N", "K"], ["lock(a, open(K))", "N", "K"], False)
        self.check(["lock(M, own(K))", "M", "own(K)"], ["lock(N, own(K))", "M", "own(K)"], False)
        self.check(["open(K)", "K"], ["open(M)", "K"], False)
        self.check(["own(K)", "open(mark(K))", "mark(K)"], ["own(K)", "open(mark(M))", "mark(K)"], False)
        self.check(["seal(M, mark(a))", "N"], ["seal(M, mark(a))", "M"], False)

    def test_what_can_be_marked_again(self):
        self.check(["mark(K)", "K"], ["mark(M)", "K"], False)
        self.check(["mark(K)", "seal(K, M)"], ["mark(N)", "seal(K, M)"], True)
        self.check(["mark(K)", "seal(K, M)", "M"], ["mark(N)", "seal(K, M)", "M"], False)
        self.check(["mark(mark(K))", "mark(K)"], ["mark(mark(M))", "mark(K)"], False)

    def test_only_one_way_round(self):
        # What works in the first one works in the second one, too; the second one has more to tell.
        self.check(["K", "M", "seal(N, P)"], ["K", "M", "seal(N, M)"], False)
        self.check(["K", "M"], ["K", "mark(K)"], False)
        self.check(["K", "M", "N"], ["K", "M", "pair(K, M)"], False)
        self.check(["own(K)", "N"], ["own(K)", "open(K)"], False)

    def test_a_chain(self):
        names = [Letter("K" + str(at)) for at in range(41)]
        chain = [names[at + 1] * names[at] for at in range(38)]
        self.check_heaps(Heap([names[0], *chain, ~names[38]]), Heap([names[0], *chain, ~names[39]]), False)
        self.check_heaps(Heap([names[1], *chain, ~names[38]]), Heap([names[1], *chain, ~names[39]]), False)
        self.check_heaps(Heap([names[39], *chain, ~names[38]]), Heap([names[39], *chain, ~names[40]]), True)


class AgainstTheOracle(Alike):

    def pairs(self, turns):
        chance = random.Random(9)
        maker = oracle.Maker(chance)
        for turn in range(turns):
            forms = maker.heap(5)
            others = list(forms)
            if chance.random() < 0.4:
                others = [maker.renamed(form, {"K": "M", "M": "K"}) for form in forms]
            for spoil in range(chance.choice([0, 1, 1, 2])):
                at = chance.randrange(len(others))
                others[at] = chance.choice([maker.spoilt(others[at]), maker.letter(), chance.choice(others)])
            yield forms, others

    def test_by_chance(self):
        are_alike = 0
        for forms, others in self.pairs(250):
            one, other = [Heap([Letter.of(form) for form in held]) for held in (forms, others)]
            found = oracle.Search(forms, others, 4, 40).test(2)
            if found is not None:
                self.assertTrue(oracle.parts_them(forms, others, found))
                self.check_heaps(one, other, False)
            else:
                # There may still be a larger test; then it is told, and parts them.
                self.check_heaps(one, other, alike(one, other))
                are_alike += alike(one, other)
        self.assertGreater(are_alike, 60)


class Large(Alike):

    def balanced(self, letters):
        if len(letters) == 1:
            return letters[0]
        half = len(letters) // 2
        return self.balanced(letters[:half]) + self.balanced(letters[half:])

    def test_forty_large_letters(self):
        letters = []
        for at in range(39):
            atoms = [Letter("K" + str(100 * at + number)) for number in range(50)]
            letters.append(self.balanced([atom * other for atom, other in zip(atoms[1:], atoms[:-1])]))
        begun = time.monotonic()
        one = Heap(letters[::-1] + [Letter("K0")])
        other = Heap(letters[::-1] + [Letter("K1")])
        self.assertIs(alike(one, one), True)
        self.assertIs(alike(one, other), False)
        self.assertEqual(len(one.parts()), 39 * 97 + 50)
        self.assertIs(Letter("K49") in one, True)
        self.assertIs(Letter("K50") in one, False)
        self.assertIsNotNone(guess(one, Letter("K49")))
        self.assertLess(time.monotonic() - begun, 20)

    def test_keys_that_double(self):
        # The recipes are too large to be walked through, but not to be told.
        names = [Letter("K" + str(at)) for at in range(40)]
        chain = [names[at + 1] * (names[at] + names[at]) for at in range(38)]
        one, other = Heap([names[0], *chain, ~names[38]]), Heap([names[0], *chain, ~names[39]])
        self.assertIs(alike(one, one), True)
        self.assertIs(alike(one, other), False)
        self.assertIs(alike(other, one), False)
        hidden = [[Letter("N"), *chain, end] for end in (~names[38], ~names[39])]
        self.assertIs(alike(Heap(hidden[0]), Heap(hidden[1])), True)


class Guess(Alike):

    def check_guess(self, texts, is_there):
        held, name = heap_of(texts), Letter("N")
        before = forms_of(held)
        test = guess(held, name)
        self.assertEqual(guess(heap=held, name=name), test)
        self.assertIs(test is not None, is_there, (texts, test))
        if is_there:
            for other in ("Z", "ZZ9"):
                self.check_test(held + name, held + Letter(other), test)
        self.assertEqual(forms_of(held), before)

    def test_the_example_of_point_15(self):
        self.check_guess(["mark(N)"], True)
        self.check_test(heap_of(["mark(N)", "N"]), heap_of(["mark(N)", "M"]), ("same", ("mark", ("at", 1)), ("at", 0)))

    def test_where_the_name_stands(self):
        self.check_guess(["N"], True)
        self.check_guess(["mark(pair(N, a))"], True)
        self.check_guess(["mark(pair(N, K))"], False)
        self.check_guess(["mark(pair(N, K))", "K"], True)
        self.check_guess(["lock(N, open(K))"], False)
        self.check_guess(["lock(N, open(K))", "open(K)"], True)
        self.check_guess(["lock(N, own(K))", "open(K)"], True)
        self.check_guess(["lock(N, own(K))", "own(K)"], True)
        self.check_guess(["lock(pair(N, K), open(M))", "open(M)"], False)

    def test_the_name_is_a_key(self):
        self.check_guess(["seal(a, N)"], True)
        self.check_guess(["seal(pair(K, M), N)"], True)
        self.check_guess(["seal(K, N)"], True)
        self.check_guess(["seal(K, pair(N, M))"], False)
        self.check_guess(["lock(K, own(N))"], True)
        self.check_guess(["lock(K, open(N))"], False)
        self.check_guess(["lock(a, open(N))"], True)
        self.check_guess(["open(N)"], True)
        self.check_guess(["own(N)"], True)

    def test_a_name_that_stands_nowhere(self):
        for texts in ([], ["K"], ["K", "a", "mark(K)", "own(M)"], ["seal(a, K)"], ["N0", "N1", "N10"], ["NN"]):
            self.check_guess(texts, False)

    def test_a_name_that_can_be_made(self):
        self.check_guess(["seal(N, K)", "K"], True)
        self.check_guess(["pair(a, pair(N, b))"], True)
        self.check_guess(["seal(N, K)", "M"], False)

    def test_names_with_numbers(self):
        names = [Letter("N" + str(at)) for at in range(30)]
        for held in (Heap([~names[0]]), Heap([~name for name in names]), Heap([Letter("N") * name for name in names])):
            for name in (names[0], names[29]):
                test = guess(held, name)
                there = any(name in letter for letter in held.letters())
                self.assertIs(test is not None, there)
                if there:
                    self.check_test(held + name, held + Letter("ZZZ"), test)

    def test_against_parting(self):
        maker = oracle.Maker(random.Random(10))
        for turn in range(150):
            held = Heap([Letter.of(form) for form in maker.heap(5)])
            test = guess(held, Letter("K"))
            self.assertIs(test is None, alike(held + Letter("K"), held + Letter("ZQ")))
            if Letter("K") in held:
                self.assertIsNotNone(test)


if __name__ == "__main__":
    unittest.main()
