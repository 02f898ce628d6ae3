"""Answers: the whole of what grants an orderly list of wishes (points 24 and 27)."""

import random
import unittest

import oracle
from openroads.errors import BadWishes
from openroads.letters import Letter
from openroads.wishes import answers, granted
from town import filling_of
from wishing import Drawer, check_answer, fillings_of, growing, is_granted, is_told, unknowns_of, wish

read = Letter.read


class Checked(unittest.TestCase):

    def check(self, wishes):
        """Holds the answers against all fillings of point 27, in both directions; tells those that grant."""
        told = answers(wishes)
        for answer in told:
            check_answer(self, wishes, answer)
        found = []
        for filling in fillings_of(wishes):
            is_right = is_granted(wishes, filling)
            if is_right:
                found.append(filling)
            if is_told(told, filling) != is_right:
                self.fail((is_right, [([held.written() for held in letters], letter.written())
                                      for letters, letter in wishes], filling))
        # Point 27: if something grants them, one of these fillings does.
        self.assertEqual(told == [], found == [])
        return found

    def check_only(self, wishes, **texts):
        """Holds the answers against all fillings, and just one filling may grant them."""
        self.assertEqual(self.check(wishes), [filling_of(**texts)])
        self.assertTrue(all(rest == [] for filling, rest in answers(wishes)))


class Crafted(Checked):

    def test_no_wishes(self):
        for told in (answers([]), answers(wishes=[])):
            self.assertNotEqual(told, [])
            for filling, rest in told:
                self.assertEqual((filling, rest), ({}, []))

    def test_plain_wishes(self):
        self.assertEqual(self.check([wish([], "a"), wish([], "pair(a, mark(b))")]), [{}])
        self.assertEqual(self.check(growing((["K", "seal(M, K)"], "M"), (["lock(N, own(M))"], "N"))), [{}])
        self.assertEqual(self.check([wish([], "K")]), [])
        self.assertEqual(self.check(growing((["K"], "K"), (["mark(M)"], "M"))), [])
        self.assertEqual(self.check(growing((["mark(M)"], "M"), (["M"], "M"))), [])

    def test_unknowns_alone(self):
        for wishes in ([wish([], "?x")], [wish(["K"], "?x")], growing(([], "?x"), (["?x"], "?y")),
                       growing(([], "?x"), ([], "?x")), growing((["K"], "?x"), (["?x", "mark(?x)"], "?x")),
                       growing((["K"], "pair(?x, pair(?y, ?x))"), (["M"], "?x"))):
            self.assertGreater(len(self.check(wishes)), 0)

    def test_only_a_word(self):
        self.check_only([wish(["own(b)"], "own(?x)")], x="b")
        self.check_only(growing(([], "?x"), (["own(K)", "own(b)"], "own(?x)")), x="b")
        self.check_only(growing((["own(b)", "own(K)"], "own(?x)"), ([], "seal(?x, ?x)")), x="b")

    def test_only_an_opened_part(self):
        self.check_only([wish(["own(K)"], "own(?x)")], x="K")
        self.check_only([wish(["seal(own(K), M)", "M"], "own(?x)")], x="K")
        self.check_only([wish(["lock(own(K), own(M))", "open(M)"], "own(?x)")], x="K")
        self.check_only([wish(["mark(pair(K, M))"], "mark(pair(K, ?x))")], x="M")
        self.check_only([wish(["seal(K, mark(N))"], "seal(?x, mark(N))")], x="K")

    def test_only_a_letter_built_anew(self):
        self.assertGreater(len(self.check([wish(["mark(K)", "M"], "seal(?x, pair(M, ?x))")])), 0)
        self.assertGreater(len(self.check(growing((["M"], "?x"), (["lock(N, open(mark(?x)))", "own(mark(M))"], "N")))), 0)
        self.check_only(growing((["M"], "?x"), (["own(seal(a, M))"], "own(?x)")), x="seal(a, M)")

    def test_nothing_grants(self):
        for wishes in ([wish(["K", "open(K)"], "own(?x)")], [wish(["mark(K)"], "seal(mark(?x), K)")],
                       growing(([], "?x"), (["own(K)"], "own(?x)")), growing((["K"], "?x"), (["mark(?x)"], "M")),
                       growing((["seal(K, M)", "seal(M, K)"], "pair(K, ?x)")),
                       growing(([], "?x"), (["mark(pair(?x, K))"], "mark(pair(K, ?x))"))):
            self.assertEqual(self.check(wishes), [])
            self.assertEqual(answers(wishes), [])

    def test_an_unknown_again_and_again(self):
        self.check_only([wish(["own(pair(K, K))", "own(pair(K, M))"], "own(pair(?x, ?x))")], x="K")
        # In a key, in a later list, and wished for once more.
        self.check_only(growing((["own(K)", "own(M)"], "own(?x)"), (["seal(N, ?x)", "M"], "N")), x="M")
        self.check_only(growing((["own(K)", "own(M)"], "own(?x)"), (["lock(N, open(?x))", "mark(?x)"], "N"),
                                (["seal(a, ?x)"], "seal(a, M)")), x="M")
        self.check(growing((["K", "mark(M)"], "mark(?x)"), (["seal(N, mark(?x))", "?x"], "?y"),
                           (["seal(?x, ?y)"], "pair(?x, N)")))

    def test_an_unknown_in_a_key_must_be_found(self):
        wishes = growing((["mark(M)", "mark(N)"], "mark(?x)"), (["seal(K, mark(?x))", "seal(B, pair(a, ?x))"], "K"))
        self.assertIn(filling_of(x="M"), self.check(wishes))
        self.check_only(growing((["mark(M)", "mark(N)"], "mark(?x)"), (["seal(K, pair(?x, a))", "N"], "K"),
                                (["own(N)"], "own(?x)")), x="N")

    def test_two_ways(self):
        wishes = [wish(["mark(M)", "K"], "mark(?x)")]
        found = self.check(wishes)
        for letter in ("M", "K", "mark(M)", "newa"):
            self.assertIn(filling_of(x=letter), found)
        self.assertTrue(is_told(answers(wishes), filling_of(x="seal(pair(K, b), mark(M))")))
        self.assertFalse(is_told(answers(wishes), filling_of(x="pair(M, M)")))

    def test_keys_that_go_round(self):
        self.assertEqual(self.check([wish(["seal(K, M)", "seal(M, N)", "seal(N, K)"], "K")]), [])
        self.assertEqual(self.check(growing((["seal(K, M)", "seal(M, N)", "seal(N, K)"], "?x"), (["?x"], "K"))), [])
        wishes = growing((["own(M)", "own(a)"], "own(?x)"),
                         (["seal(K, M)", "seal(M, N)", "seal(N, pair(K, b))", "seal(N, pair(?x, b))"], "K"))
        self.check_only(wishes, x="a")
        wishes = growing((["own(M)", "own(K)"], "own(?x)"), (["seal(K, M)", "seal(M, ?x)", "seal(?x, N)"], "K"))
        self.assertEqual(self.check(wishes), [])

    def test_a_key_behind_its_own_seal(self):
        self.assertEqual(self.check([wish(["seal(K, K)"], "K")]), [])
        self.assertEqual(self.check(growing((["own(K)", "own(M)"], "own(?x)"), (["seal(K, K)", "seal(K, ?x)"], "K"))), [])
        self.check_only(growing((["own(K)", "own(a)"], "own(?x)"), (["seal(K, K)", "seal(K, ?x)"], "K")), x="a")
        self.check_only(growing((["own(K)", "M", "own(M)"], "own(?x)"), (["seal(pair(K, ?x), ?x)", "seal(?x, K)"], "K")),
                        x="M")
        self.check_only(growing((["own(K)", "own(M)", "own(a)"], "own(?x)"), (["seal(K, K)", "seal(K, ?x)"], "K")), x="a")

    def test_what_an_unknown_gives_away(self):
        # The second letter is had only as what the unknown becomes.
        for wished in ("mark(?x)", "seal(mark(?x), a)", "seal(a, mark(?x))", "lock(a, open(mark(?x)))", "mark(mark(?x))",
                       "open(seal(mark(?x), b))", "pair(b, mark(?x))", "lock(mark(?x), own(b))"):
            self.check_only(growing((["mark(N)", "own(b)"], wished), (["?x"], "N")), x="N")
        self.check_only(growing((["own(pair(N, M))"], "own(pair(?x, ?y))"), (["?x"], "N")), x="N", y="M")
        self.check_only(growing((["own(pair(N, M))"], "own(?x)"), (["?x"], "M")), x="pair(N, M)")
        self.check_only(growing((["own(seal(N, M))"], "own(?x)"), (["?x", "M"], "N")), x="seal(N, M)")
        self.check_only(growing((["lock(N, own(M))"], "lock(?x, own(M))"), (["seal(B, ?x)", "?x"], "B")), x="N")

    def test_what_unknowns_in_unknowns_give_away(self):
        self.check_only(growing((["mark(pair(N, M))"], "mark(?y)"), (["seal(?y, K)"], "seal(pair(?x, ?z), K)"),
                                (["?x"], "N")), x="N", y="pair(N, M)", z="M")
        self.check_only(growing((["mark(N)"], "?y"), (["seal(?y, K)"], "seal(mark(?x), K)"), (["?x"], "N")),
                        x="N", y="mark(N)")
        self.check_only(growing((["mark(N)"], "mark(?y)"), (["seal(?y, K)"], "seal(?x, K)"), (["?x"], "N")), x="N", y="N")
        self.check_only(growing((["mark(seal(N, M))", "M"], "mark(?y)"), (["seal(mark(?y), K)"], "seal(mark(?x), K)"),
                                (["?x"], "N")), x="seal(N, M)", y="seal(N, M)")
        self.check_only(growing((["mark(mark(N))"], "mark(?y)"), (["seal(?y, K)"], "seal(mark(?x), K)"),
                                (["?x"], "N")), x="N", y="mark(N)")
        self.check_only(growing((["mark(N)"], "?y"), (["own(?y)"], "own(mark(?x))"), (["?x"], "N")), x="N", y="mark(N)")
        found = self.check(growing((["own(K)"], "own(?x)"), (["?x"], "seal(?x, mark(?z))"), ([], "K")))
        self.assertIn(filling_of(x="K", z="pair(a, K)"), [{**filling, "z": read("pair(a, K)")} for filling in found])
        # What an unknown cannot become does not help.
        self.assertEqual(self.check(growing((["mark(N)"], "?y"), (["mark(?y)", "seal(B, mark(M))"], "B"))), [])
        self.check_only(growing((["mark(mark(M))", "mark(a)", "own(a)"], "own(?y)"),
                                (["seal(B, mark(?y))"], "B")), y="a")

    def test_behind_several_seals(self):
        self.check_only(growing((["own(B)", "own(a)"], "own(?x)"),
                                (["seal(seal(pair(own(K), M), mark(?x)), pair(?x, a))"], "M"), ([], "own(K)")), x="a")
        self.check_only(growing((["own(B)", "B"], "own(?x)"), (["lock(seal(M, ?x), own(?x))"], "M")), x="B")

    def test_unknowns_that_become_unknowns(self):
        wishes = [wish(["own(N)"], "seal(?x, ?y)"), wish(["own(N)"], "mark(pair(?y, ?x))")]
        self.assertGreater(len(self.check(wishes)), 0)
        wishes = growing(([], "?x"), ([], "?y"), (["mark(pair(?x, own(?y)))"], "mark(pair(?y, own(?x)))"))
        self.assertGreater(len(self.check(wishes)), 0)
        for filling in fillings_of(wishes):
            self.assertEqual(is_granted(wishes, filling), is_told(answers(wishes), filling))

    def test_a_letter_that_would_be_a_part_of_itself(self):
        self.assertEqual(self.check(growing((["own(a)"], "?x"), (["own(pair(?x, b))"], "own(?x)"))), [filling_of(x="a")])

    def test_what_lies_in_an_unknown(self):
        wishes = growing((["mark(K)", "mark(pair(K, M))"], "mark(?x)"), (["?x"], "K"), ([], "M"))
        self.check_only(wishes, x="pair(K, M)")
        self.check_only(growing((["own(seal(K, N))", "own(a)", "N"], "own(?x)"), (["?x"], "K")), x="seal(K, N)")


class Drawn(Checked):

    def draw(self, seed, unknowns, turns, limit):
        chance = random.Random(seed)
        granted_ones = 0
        for turn in range(turns):
            wishes = Drawer(chance, unknowns).wishes(chance.randint(1, 4))
            parts = {part for letters, letter in wishes for held in letters + [letter]
                     for part in oracle.parts_of(held.form())}
            if (len(parts) + 2) ** len(unknowns_of(wishes)) <= limit:
                granted_ones += len(self.check(wishes)) > 0
        self.assertGreater(granted_ones, turns // 10)

    def test_one_unknown(self):
        self.draw(1, "x", 1000, 100)

    def test_two_unknowns(self):
        self.draw(2, "xy", 600, 900)

    def test_three_unknowns(self):
        self.draw(3, "xyz", 120, 4000)

    def test_letters_drawn_for_the_rest(self):
        # What is made by chance of the letters in a rest grants it, and so it grants the wishes.
        chance = random.Random(4)
        made = 0
        for turn in range(400):
            wishes = Drawer(chance, "xyz").wishes(3)
            for found, rest in answers(wishes):
                further = {}
                for letters, letter in rest:
                    pool = [held.filled(further) for held in letters] + [read("a"), read("b")]
                    one, other = chance.choice(pool), chance.choice(pool)
                    further[letter.form()[1]] = chance.choice([one, one + other, one * other, ~one, +one])
                filling = {unknown: further.get(unknown) or found[unknown].filled(further)
                           for unknown in unknowns_of(wishes)}
                self.assertIs(granted(wishes, filling), True)
                made += len(rest) > 0
        self.assertGreater(made, 20)


class Exchanged(Checked):

    def test_words_and_names_exchanged(self):
        chance = random.Random(5)
        names = {"K": "ZZ", "M": "K", "N": "Q7"}
        for turn in range(60):
            wishes = Drawer(chance, "x").wishes(3)
            others = [([self.renamed(held, names) for held in letters], self.renamed(letter, names))
                      for letters, letter in wishes]
            told, others_told = answers(wishes), answers(others)
            for filling in fillings_of(wishes):
                other = {unknown: self.renamed(filling[unknown], names) for unknown in filling}
                self.assertEqual(is_told(told, filling), is_told(others_told, other))

    def renamed(self, letter, names):
        def walk(form):
            if form[0] == "name":
                return ("name", names[form[1]])
            return form if form[0] in ("word", "unknown") else (form[0], *[walk(inner) for inner in form[1:]])
        return Letter.of(walk(letter.form()))


class Refused(unittest.TestCase):

    def check_bad(self, index, wishes):
        with self.assertRaises(BadWishes) as held:
            answers(wishes)
        self.assertEqual(vars(held.exception), {"index": index})

    def test_a_list_that_does_not_begin_with_the_one_before(self):
        good = growing((["K"], "?x"), (["?x", "M"], "?y"), (["mark(?y)"], "?x"), ([], "N"))
        self.assertEqual(len(answers(good[:3])), 1)
        for index in range(1, 4):
            letters, letter = good[index]
            before = good[index - 1][0]
            for bad in (letters[1:], before[:-1], [read("N")] + letters, letters[::-1], before[:-1] + [read("a")], [],
                        before[:-1] + letters[len(before):], [read("mark(K)")] + letters[1:]):
                self.check_bad(index, good[:index] + [(bad, letter)] + good[index + 1:])
                self.check_bad(index, good[:index] + [(bad, letter)] * 2)

    def test_an_unknown_that_was_not_wished_before(self):
        self.check_bad(0, [wish(["?x"], "?x")])
        self.check_bad(0, [wish(["K", "mark(seal(a, ?x))"], "a")])
        good = growing((["K"], "?x"), (["?x", "M"], "?y"), (["mark(?y)"], "a"))
        for index in range(3):
            letters, letter = good[index]
            for unknown in "xyz"[index:]:
                bad = letters + [read("lock(a, open(?" + unknown + "))")]
                self.check_bad(index, good[:index] + [(bad, letter)])
                # The wish after the bad one is not looked at.
                self.check_bad(index, good[:index] + [(bad, letter), ([read("?z")], letter)])

    def test_an_unknown_of_the_same_wish_comes_too_late(self):
        self.check_bad(1, [wish([], "?x"), wish(["?y"], "?y")])
        self.check_bad(2, growing(([], "?x"), ([], "a"), (["?y"], "?y")))

    def test_the_first_of_two(self):
        self.check_bad(1, [wish(["K"], "a"), wish([], "a"), wish(["?x"], "a")])
        self.check_bad(1, [wish(["K"], "a"), wish(["K", "?x"], "a"), wish([], "a")])

    def test_also_where_nothing_grants(self):
        self.check_bad(1, [wish(["K"], "M"), wish([], "a")])


class NewEachTime(unittest.TestCase):

    def test_changes(self):
        wishes = growing((["K"], "?x"), (["mark(M)", "?x"], "mark(?y)"))
        before = [(list(letters), letter) for letters, letter in wishes]
        told = answers(wishes)
        again = answers(wishes)
        self.assertEqual(told, again)
        for filling, rest in told:
            filling["x"] = read("a")
            for letters, letter in rest:
                letters.append(read("?x"))
            rest.clear()
        told.clear()
        self.assertEqual(answers(wishes), again)
        for filling, rest in again:
            for at in range(1, len(rest)):
                self.assertIsNot(rest[at - 1][0], rest[at][0])
        wishes[0][0].clear()
        wishes.clear()
        self.assertEqual(answers(before), again)


if __name__ == "__main__":
    unittest.main()
