"""Seeking: as few deeds as possible at whose end a goal holds (points 26 and 27)."""

import itertools
import random
import unittest

from openroads.errors import BadGoal, BadSitting
from openroads.letters import Letter
from openroads.roles import Book, Role
from openroads.seeking import reached, seek
from openroads.worlds import World
from runs import Casting, fewest_deeds, renamed
from town import BOOK, filling_of, row

read = Letter.read
LONE = ("lone", "done", "begun")


def holds(text):
    return ("holds", read(text))


def role(title, *rows, params=(), knows=(), fresh=()):
    return Role(title, list(params), [read(text) for text in knows], list(fresh), list(rows))


def book(roles, *known):
    return Book(roles, [read(text) for text in known])


class Checked(unittest.TestCase):

    def check(self, many, held, sittings, goal):
        """Seeks, and looks whether there are so many deeds (None: no deeds), and whether they do what they must."""
        deeds = seek(held, sittings, goal)
        self.assertEqual(None if deeds is None else len(deeds), many)
        if deeds is not None:
            self.assertIs(type(deeds), list)
            world = World(held, sittings)
            for deed in deeds:
                self.assertIs(type(deed), tuple)
                self.assertIs(reached(world, goal), False)
                self.assertIsNone(world.perform([deed]))
            self.assertIs(reached(world, goal), True)
            world = World(held, sittings)
            world.perform(deeds)
            self.assertIs(reached(world, goal), True)
            self.assertEqual(len(world.gives()), many)
        return deeds


class AtOnce(Checked):

    def test_no_deeds(self):
        self.assertEqual(self.check(0, book([]), [], holds("a")), [])
        self.check(0, book([]), [], holds("pair(a, mark(open(b)))"))
        self.check(0, book([], "K"), [], holds("lock(a, open(K))"))
        self.check(0, BOOK, [("ann", filling_of(me="A", you="C"))], holds("N0"))
        self.check(0, BOOK, [("eve", {})], LONE)
        self.check(0, BOOK, [("ann", filling_of(me="A", you="B"))], ("lone", "begun", "done"))

    def test_nothing_to_be_done(self):
        self.check(None, book([]), [], holds("K"))
        self.check(None, book([], "mark(K)", "open(K)"), [], holds("K"))
        self.check(None, book([]), [], LONE)
        self.check(None, BOOK, [("eve", {})], ("lone", "begun", "done"))
        self.check(None, BOOK, [("eve", {}), ("eve", {})], holds("N0"))


class Deeds(Checked):

    def setUp(self):
        # Whoever shows that they know the first name is told the second one, and then the third.
        self.steps = role("steps", row("await", "A"), row("send", "B"), row("await", "pair(B, ?x)"),
                          row("send", "pair(C, ?x)"), row("await", "seal(?y, C)"), row("send", "lock(D, open(?y))"),
                          knows=["A", "B", "C", "D"])
        self.book = book([self.steps], "A", "E")
        self.sittings = [("steps", {})]

    def test_one_after_another(self):
        self.check(0, self.book, self.sittings, holds("A"))
        self.check(1, self.book, self.sittings, holds("B"))
        self.check(2, self.book, self.sittings, holds("C"))
        self.check(3, self.book, self.sittings, holds("lock(D, open(E))"))
        self.check(3, self.book, self.sittings, holds("lock(D, open(pair(C, E)))"))
        for text in ("D", "own(A)", "lock(D, open(D))", "lock(D, own(E))", "F"):
            self.check(None, self.book, self.sittings, holds(text))

    def test_what_is_given_first(self):
        self.assertEqual(self.check(1, self.book, self.sittings, holds("B")), [(0, ("at", 0))])

    def test_not_from_the_end(self):
        self.check(None, book([self.steps], "B"), self.sittings, holds("C"))

    def test_several_sittings(self):
        one = role("one", row("await", "seal(?x, K)"), row("send", "seal(mark(?x), M)"), knows=["K", "M"])
        two = role("two", row("await", "seal(?x, M)"), row("send", "seal(?x, R)"), knows=["M", "R"])
        three = role("three", row("await", "pair(seal(?x, R), ?y)"), row("send", "?x"), knows=["R"])
        held = book([one, two, three], "seal(B, K)")
        whole = [("one", {}), ("two", {}), ("three", {})]
        self.check(3, held, whole, holds("mark(B)"))
        for order in itertools.permutations(whole):
            self.check(3, held, list(order), holds("mark(B)"))
            self.check(None, held, list(order), holds("B"))
        self.check(1, held, whole, holds("seal(mark(B), M)"))
        self.check(2, held, whole, holds("seal(mark(B), R)"))
        for left_out in range(3):
            self.check(None, held, whole[:left_out] + whole[left_out + 1:], holds("mark(B)"))

    def test_a_role_that_is_taken_twice(self):
        turn = role("turn", row("await", "seal(?x, K)"), row("send", "seal(mark(?x), K)"), knows=["K"])
        held = book([turn], "seal(B, K)")
        for many in range(1, 4):
            self.check(many, held, [("turn", {})] * 3, holds("seal(" + "mark(" * many + "B" + ")" * many + ", K)"))
        self.check(None, held, [("turn", {})] * 2, holds("seal(mark(mark(mark(B))), K)"))

    def test_params(self):
        opens = role("opens", row("await", "lock(?x, open(?me))"), row("send", "lock(?x, open(?you))"),
                     params=["me", "you"], knows=["own(?me)"])
        held = book([opens], "own(C)", "lock(M, open(A))")
        passed = [("opens", filling_of(me="A", you="B")), ("opens", filling_of(me="B", you="C"))]
        self.check(2, held, passed, holds("M"))
        self.check(2, held, passed[::-1], holds("M"))
        self.check(1, held, [("opens", filling_of(me="A", you="C"))], holds("M"))
        self.check(None, held, passed[:1], holds("M"))
        self.check(None, held, passed[1:], holds("M"))
        # Whatever a param is, its key is the key of just that.
        self.check(1, book([opens], "own(pair(C, a))", "lock(M, open(mark(B)))"),
                   [("opens", filling_of(me="mark(B)", you="pair(C, a)"))], holds("M"))

    def test_fresh_names_of_several_sittings(self):
        asks = role("asks", row("send", "seal(N, K)"), row("await", "N"), row("send", "D"), fresh=["N"], knows=["K", "D"])
        tells = role("tells", row("await", "seal(?x, K)"), row("send", "?x"), knows=["K"])
        held = book([asks, tells])
        self.check(2, held, [("asks", {}), ("tells", {})], holds("D"))
        self.check(1, held, [("asks", {}), ("tells", {})], holds("N0"))
        self.check(1, held, [("tells", {}), ("asks", {})], holds("N1"))
        self.check(None, held, [("asks", {}), ("asks", {})], holds("D"))
        self.check(None, held, [("tells", {}), ("asks", {})], holds("N0"))
        self.check(2, held, [("asks", {}), ("asks", {}), ("tells", {})], holds("D"))
        self.check(None, held, [("asks", {}), ("asks", {}), ("tells", {})], holds("pair(N0, N1)"))


class GivenOn(Checked):

    def test_unopened(self):
        # Nobody but the two can look into it, but the stranger can give it on.
        one = role("one", row("send", "seal(N, K)"), fresh=["N"], knows=["K"])
        two = role("two", row("await", "?x"), row("await", "seal(?y, K)"), row("send", "pair(?x, mark(?y))"), knows=["K"])
        held = book([one, two])
        whole = [("one", {}), ("two", {})]
        self.check(2, held, whole, holds("mark(N0)"))
        self.check(None, held, whole, holds("N0"))
        self.check(None, held, whole[:1], holds("mark(N0)"))
        self.assertEqual([sitting for sitting, recipe in self.check(2, held, whole, holds("mark(N0)"))], [1, 1])

    def test_opened(self):
        one = role("one", row("send", "lock(pair(N, M), open(C))"), fresh=["N", "M"], knows=["C"])
        two = role("two", row("await", "pair(?y, ?x)"), row("send", "seal(D, ?y)"), knows=["D"])
        three = role("three", row("await", "?x"), row("send", "seal(?x, D)"), knows=["D"])
        held = book([one, two, three], "own(C)")
        self.check(1, held, [("one", {}), ("two", {})], holds("D"))
        self.check(0, held, [("one", {})], holds("pair(M0, N0)"))
        self.check(1, held, [("one", {}), ("two", {})], holds("seal(D, M0)"))
        self.check(None, book([one, two, three]), [("one", {}), ("three", {})], holds("seal(M0, D)"))
        self.check(1, held, [("one", {}), ("three", {})], holds("seal(M0, D)"))

    def test_both(self):
        one = role("one", row("send", "lock(N, open(B))"), row("await", "lock(pair(N, ?x), open(A))"),
                   row("send", "lock(?x, open(B))"), row("claim", "?x", "begun"), knows=["A", "B", "own(A)"], fresh=["N"])
        two = role("two", row("await", "lock(?n, open(B))"), row("send", "lock(pair(?n, S), open(A))"),
                   row("await", "lock(S, open(B))"), row("claim", "S", "done"), row("send", "seal(yes, ?n)"),
                   knows=["A", "B", "own(B)"], fresh=["S"])
        held = book([one, two], "A", "B")
        whole = [("one", {}), ("two", {})]
        self.check(3, held, whole, holds("seal(yes, N0)"))
        self.check(None, held, whole, holds("S1"))
        self.check(None, held, whole, LONE)
        # The own key of one of them is known now.
        held = book([one, two], "A", "B", "own(A)")
        self.check(1, held, whole, holds("S1"))
        self.check(2, held, whole, LONE)

    def test_a_key_that_is_given_away_later(self):
        late = role("late", row("await", "a"), row("send", "K"), knows=["K"])
        held = book([late], "seal(seal(D, R), K)", "seal(R, mark(K))")
        self.check(1, held, [("late", {})], holds("D"))
        takes = role("takes", row("await", "D"), row("send", "E"), knows=["D", "E"])
        self.check(2, book([late, takes], *[letter.written() for letter in held.known]), [("takes", {}), ("late", {})],
                   holds("E"))

    def test_one_own_key_for_all(self):
        # Somebody opens all that is locked for them, and does not look at it.
        opens = role("opens", row("await", "lock(?x, open(A))"), row("send", "?x"), knows=["own(A)"])
        held = book([opens], "lock(lock(D, open(A)), open(A))")
        self.check(1, held, [("opens", {})], holds("lock(D, open(A))"))
        self.check(None, held, [("opens", {})], holds("D"))
        self.check(2, held, [("opens", {})] * 2, holds("D"))
        self.check(2, held, [("opens", {})] * 3, holds("D"))

    def test_locked_by_an_own_key(self):
        looks = role("looks", row("await", "lock(?x, own(A))"), row("send", "seal(D, ?x)"), row("claim", "?x", "done"),
                     knows=["A", "D"])
        self.check(1, book([looks], "lock(b, own(A))", "A"), [("looks", {})], holds("D"))
        self.check(None, book([looks], "lock(N, own(A))"), [("looks", {})], holds("D"))
        self.check(1, book([looks], "lock(N, own(A))", "open(A)"), [("looks", {})], holds("D"))
        self.check(None, book([looks], "A", "lock(b, open(A))"), [("looks", {})], LONE)
        self.check(1, book([looks], "own(A)"), [("looks", {})], LONE)


class Lone(Checked):

    def setUp(self):
        self.done = role("ends", row("await", "seal(?x, K)"), row("claim", "?x", "done"), knows=["K"])
        self.begun = role("begins", row("claim", "N", "begun"), row("send", "seal(N, K)"), knows=["K"], fresh=["N"])

    def test_alone_and_matched(self):
        held = book([self.done, self.begun])
        self.check(None, held, [("ends", {})], LONE)
        self.check(None, held, [("begins", {}), ("ends", {})], LONE)
        self.check(None, held, [("begins", {}), ("begins", {}), ("ends", {})], LONE)
        self.check(2, held, [("begins", {}), ("ends", {}), ("ends", {})], LONE)
        held = book([self.done, self.begun], "seal(a, K)")
        self.check(1, held, [("begins", {}), ("ends", {})], LONE)
        self.check(1, book([self.done, self.begun], "K"), [("begins", {}), ("ends", {})], LONE)

    def test_counted(self):
        twice = role("twice", row("claim", "N", "begun"), row("claim", "N", "begun"), row("send", "seal(N, K)"),
                     knows=["K"], fresh=["N"])
        held = book([self.done, twice])
        self.check(None, held, [("twice", {}), ("ends", {}), ("ends", {})], LONE)
        triple = role("triple", *[row("await", "seal(?x, K)"), row("claim", "?x", "done")],
                      *[row("await", "seal(?y, K)"), row("claim", "?y", "done")],
                      *[row("await", "seal(?z, K)"), row("claim", "?z", "done")], knows=["K"])
        self.check(3, book([triple, twice]), [("twice", {}), ("triple", {})], LONE)
        self.check(None, book([triple, twice]), [("twice", {}), ("twice", {})], LONE)
        # As many as can be equal are not more than those that were begun.
        fourfold = role("fourfold", *[row("claim", "M", "begun")] * 4, row("send", "seal(M, K)"), knows=["K", "M"])
        self.check(None, book([triple, fourfold]), [("fourfold", {}), ("triple", {})], LONE)
        self.check(1, book([triple, fourfold], "seal(a, K)"), [("fourfold", {}), ("triple", {})], LONE)

    def test_letters_that_must_be_equal(self):
        pairs = role("pairs", row("claim", "pair(?x, ?y)", "done"), params=["x", "y"])
        asks = role("asks", row("await", "?x"), row("claim", "pair(?x, A)", "begun"), row("claim", "?x", "done"),
                    knows=["A"])
        held = book([pairs, asks], "B")
        # The begun one need not be equal, so that the claim is lone at once.
        self.check(0, held, [("pairs", filling_of(x="B", y="A")), ("asks", {})], LONE)
        self.check(1, held, [("asks", {})], LONE)
        self.check(1, held, [("asks", {}), ("asks", {})], ("lone", "begun", "done"))

    def test_what_is_done_twice(self):
        again = role("again", row("claim", "A", "begun"), row("claim", "B", "begun"), row("await", "?x"),
                     row("claim", "?x", "done"), row("await", "?y"), row("claim", "?y", "done"), knows=["A", "B"])
        takes = role("takes", row("claim", "A", "begun"), row("claim", "B", "begun"), row("await", "seal(?x, K)"),
                     row("claim", "?x", "done"), row("await", "seal(?y, K)"), row("claim", "?y", "done"),
                     knows=["A", "B", "K"])
        self.check(1, book([again]), [("again", {})], LONE)
        self.check(2, book([takes], "seal(A, K)", "seal(B, K)"), [("takes", {})], LONE)
        self.check(None, book([takes], "seal(A, K)", "seal(B, K)"), [("takes", {})] * 2, ("lone", "other", "begun"))
        self.check(3, book([takes], "seal(A, K)", "seal(B, K)"), [("takes", {})] * 2, LONE)

    def test_words_that_stand_somewhere(self):
        # A new word must be found that nobody has begun with.
        words = ["a", "b", "c", "d", "e", "f", "g", "h", "i", "j", "k", "l"]
        ahead = role("ahead", *[row("claim", word, "begun") for word in words])
        takes = role("takes", row("await", "?x"), row("claim", "?x", "done"))
        deeds = self.check(1, book([ahead, takes]), [("ahead", {}), ("takes", {})], LONE)
        self.assertNotIn(deeds[0][1], [("word", word) for word in words])
        # Here there is nothing but what was begun with.
        takes = role("takes", row("await", "seal(?x, K)"), row("claim", "?x", "done"), knows=["K"])
        known = ["seal(" + word + ", K)" for word in words]
        self.check(None, book([ahead, takes], *known), [("ahead", {}), ("takes", {})], LONE)
        self.check(2, book([ahead, takes], *known), [("ahead", {}), ("takes", {}), ("takes", {})], LONE)
        self.check(1, book([ahead, takes], "seal(m, K)", *known), [("ahead", {}), ("takes", {})], LONE)

    def test_many_new_words(self):
        # No two of the unknowns may become the same word.
        unknowns = [one + other for one in "abcdef" for other in "abcdefgh"]
        letters = [Letter("?" + unknown) for unknown in unknowns]
        while len(letters) > 1:
            letters = [one + other for one, other in zip(letters[::2], letters[1::2])] + letters[len(letters) // 2 * 2:]
        for done in ("aa", "ce", "dd", "fh"):
            begun = [unknown for unknown in unknowns if unknown != done]
            for at in range(0, len(begun), 10):
                claims = [row("claim", "?" + unknown, "begun") for unknown in begun[at:at + 10]]
                takes = Role("takes", [], [], [], [("await", letters[0]), row("claim", "?" + done, "done"), *claims])
                self.check(1, book([takes]), [("takes", {})], LONE)

    def test_a_well_known_flaw(self):
        # Ann talks to Carl, whose own key the stranger has; so Bob believes that Ann talks to him.
        begins = role("begins", row("send", "lock(pair(N, ?me), open(?you))"), row("await", "lock(pair(N, ?x), open(?me))"),
                      row("send", "lock(?x, open(?you))"), row("claim", "pair(?me, pair(?you, ?x))", "begun"),
                      params=["me", "you"], knows=["own(?me)"], fresh=["N"])
        ends = role("ends", row("await", "lock(pair(?x, ?you), open(?me))"), row("send", "lock(pair(?x, N), open(?you))"),
                    row("await", "lock(N, open(?me))"), row("claim", "pair(?you, pair(?me, N))", "done"),
                    params=["me", "you"], knows=["own(?me)"], fresh=["N"])
        mended = role("begins", row("send", "lock(pair(N, ?me), open(?you))"),
                      row("await", "lock(pair(N, pair(?x, ?you)), open(?me))"), row("send", "lock(?x, open(?you))"),
                      row("claim", "pair(?me, pair(?you, ?x))", "begun"),
                      params=["me", "you"], knows=["own(?me)"], fresh=["N"])
        answers = role("ends", row("await", "lock(pair(?x, ?you), open(?me))"),
                       row("send", "lock(pair(?x, pair(N, ?me)), open(?you))"), row("await", "lock(N, open(?me))"),
                       row("claim", "pair(?you, pair(?me, N))", "done"),
                       params=["me", "you"], knows=["own(?me)"], fresh=["N"])
        known = ["A", "B", "C", "own(C)"]
        with_carl = [("begins", filling_of(me="A", you="C")), ("ends", filling_of(me="B", you="A"))]
        with_bob = [("begins", filling_of(me="A", you="B")), ("ends", filling_of(me="B", you="A"))]
        self.check(3, book([begins, ends], *known), with_carl, LONE)
        self.check(2, book([begins, ends], *known), with_carl, holds("N1"))
        self.check(None, book([begins, ends], *known), with_bob, LONE)
        self.check(None, book([begins, ends], *known), with_bob, holds("N1"))
        for sittings in (with_carl, with_bob, with_carl + with_bob[:1], with_bob + with_carl[:1]):
            self.check(None, book([mended, answers], *known), sittings, LONE)
            self.check(None, book([mended, answers], *known), sittings, holds("N1"))
        self.check(None, book([mended, answers], *known), with_carl, holds("own(A)"))


class Drawn(Checked):

    def test_as_few_as_possible(self):
        casting, told = Casting(random.Random(26)), {}
        for turn in range(600):
            held, sittings, goal = casting.story()
            # Most goals are not reached; it is enough to look at some of these.
            if seek(held, sittings, goal) is not None or turn % 6 == 0:
                many = fewest_deeds(held, sittings, goal, 2000)
                if many != "many":
                    self.check(many, held, sittings, goal)
                    told[many] = told.get(many, 0) + 1
        self.assertGreater(told[None], 30)
        self.assertGreater(told[1], 30)
        self.assertGreater(told[2] + told.get(3, 0), 5)

    def test_more_never_hinders(self):
        casting, reached_ones = Casting(random.Random(27)), 0
        while reached_ones < 25:
            held, sittings, goal = casting.story()
            deeds = seek(held, sittings, goal)
            if deeds is None or goal[0] == "lone":
                continue
            reached_ones += 1
            for further in sittings:
                self.check_at_most(len(deeds), held, sittings + [further], goal)
            for letter in (read("P"), read("seal(a, K)"), read("mark(A)"), read("own(A)")):
                self.check_at_most(len(deeds), Book(held.roles, held.known + [letter]), sittings, goal)
                self.check_at_most(len(deeds), Book(held.roles, [letter] + held.known), sittings, goal)

    def check_at_most(self, many, held, sittings, goal):
        deeds = seek(held, sittings, goal)
        self.assertIsNotNone(deeds)
        self.assertLessEqual(len(deeds), many)
        world = World(held, sittings)
        world.perform(deeds)
        self.assertIs(reached(world, goal), True)

    def test_words_and_names_exchanged(self):
        names = {"K": "AX", "A": "K", "P": "Q", "a": "b"}
        casting = Casting(random.Random(28))
        for turn in range(60):
            held, sittings, goal = casting.story()
            roles = [Role(role.title, [], [renamed(letter, names) for letter in role.knows], role.fresh,
                          [(*row[:-1], renamed(row[-1], names)) for row in role.rows]) for role in held.roles]
            other = Book(roles, [renamed(letter, names) for letter in held.known])
            deeds = seek(held, sittings, goal)
            if goal[0] == "holds":
                goal = ("holds", renamed(goal[1], names))
            self.check(None if deeds is None else len(deeds), other, sittings, goal)

    def test_sittings_in_another_order(self):
        casting = Casting(random.Random(29))
        for turn in range(60):
            held, sittings, goal = casting.story()
            if goal[0] == "lone":
                deeds = seek(held, sittings, goal)
                for order in itertools.permutations(sittings):
                    self.check(None if deeds is None else len(deeds), held, list(order), goal)


class Refused(unittest.TestCase):

    def test_sittings(self):
        ann, bob = ("ann", filling_of(me="A", you="B")), ("bob", filling_of(me="B"))
        for bad in (("none", {}), ("ann", {}), ("ann", filling_of(me="A")), ("bob", filling_of(me="A", you="B")),
                    ("bob", filling_of(me="?x")), ("bob", filling_of(me="B1")), ("bob", filling_of(you="B"))):
            for index, sittings in enumerate(([bad, ann], [bob, bad, bad], [ann, bob, bad])):
                for goal in (holds("A"), LONE, holds("?x"), None, ("lone", "done")):
                    with self.assertRaises(BadSitting) as held:
                        seek(BOOK, sittings, goal)
                    self.assertEqual(held.exception.index, index)

    def test_goals(self):
        ann = ("ann", filling_of(me="A", you="B"))
        for goal in (None, (), holds("?x"), ("lone", "Done", "begun"), ["holds", read("A")]):
            for sittings in ([], [ann]):
                with self.assertRaises(BadGoal):
                    seek(book=BOOK, sittings=sittings, goal=goal)


class NothingChanges(unittest.TestCase):

    def test_what_is_passed(self):
        filling = filling_of(me="A", you="C")
        sittings = [("ann", filling), ("bob", filling_of(me="B"))]
        goal = holds("N1")
        deeds = seek(book=BOOK, sittings=sittings, goal=goal)
        self.assertEqual(sittings, [("ann", filling_of(me="A", you="C")), ("bob", filling_of(me="B"))])
        again = seek(BOOK, sittings, goal)
        self.assertEqual(again, deeds)
        deeds.clear()
        self.assertEqual(seek(BOOK, sittings, goal), again)
        filling["you"] = read("B")
        self.assertEqual(again, seek(BOOK, [("ann", filling_of(me="A", you="C")), sittings[1]], goal))


if __name__ == "__main__":
    unittest.main()
