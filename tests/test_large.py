"""What lies within the limits of point 4 is answered, and soon."""

import random
import time
import unittest

import oracle
from openroads.desk import Desk
from openroads.letters import Letter
from openroads.roles import Book, Role
from openroads.seeking import reached, seek
from openroads.texts import book_read, book_text
from openroads.wishes import answers, granted
from openroads.worlds import World
from town import filling_of, row
from wishing import Drawer, check_answer, growing, is_told, unknowns_of

read = Letter.read
LONE = ("lone", "done", "begun")
TWELVE = "ABCDEFGHIJKL"


def holds(text):
    return ("holds", read(text))


def long(letter, size):
    """A letter of this len, nested some twenty deep, with a letter in its innermost place."""
    turn = 0
    while len(letter) < size - 1:
        more = Letter("a") if turn % 3 else read("pair(mark(a), pair(B, pair(C, pair(mark(b), open(C)))))")
        if len(letter) + len(more) + 1 > size:
            more = Letter("a")
        letter = (letter + more) if turn % 2 else (more + letter)
        turn += 1
    return letter


class Timed(unittest.TestCase):

    def setUp(self):
        self.begun = time.monotonic()

    def tearDown(self):
        self.assertLess(time.monotonic() - self.begun, 20)


class EightWishes(Timed):

    def test_a_chain_of_keys(self):
        chain = ["seal(N%s, N%s)" % pair for pair in zip(TWELVE[1:], TWELVE)]
        wishes = growing((["NA"], "?x"), *[([chain[at]], "seal(?x, N" + TWELVE[at + 1] + ")") for at in range(7)])
        told = answers(wishes)
        self.assertGreater(len(told), 0)
        for answer in told:
            check_answer(self, wishes, answer)
        self.assertTrue(is_told(told, filling_of(x="pair(NA, b)")))
        self.assertFalse(is_told(told, filling_of(x="NB")))
        wishes = growing((["mark(NA)"], "?x"), *[([chain[at]], "seal(?x, N" + TWELVE[at + 1] + ")") for at in range(7)])
        self.assertEqual(answers(wishes), [])

    def test_keys_in_a_circle(self):
        circle = ["seal(N%s, mark(N%s))" % pair for pair in zip(TWELVE, TWELVE[1:] + TWELVE[:1])]
        wishes = [([read(text) for text in circle], read("N" + name)) for name in TWELVE[:8]]
        self.assertEqual(answers(wishes), [])
        circle[0] = "seal(NA, mark(?x))"
        letters = [read(text) for text in circle]
        wishes = [([], read("?x"))] + [(letters, read("N" + name)) for name in TWELVE[:7]]
        self.assertEqual(answers(wishes), [({}, [([], read("?x"))])])

    def test_many_to_choose_from(self):
        letters = [read("own(N%s)" % name) for name in TWELVE]
        wishes = [(letters, read("own(?%s)" % unknown)) for unknown in "xyz"]
        self.assertEqual(len(answers(wishes)), 12 ** 3)
        # However much there is to choose from, the last wish leaves nothing.
        wishes = [(letters, read("own(?%s)" % unknown)) for unknown in "abcdefg"]
        self.assertEqual(answers(wishes + [(letters, read("seal(own(?a), mark(NZ))"))]), [])
        wishes += [(letters, read("own(pair(?a, pair(?b, pair(?c, pair(?d, pair(?e, pair(?f, ?g)))))))"))]
        self.assertEqual(answers(wishes), [])

    def test_many_that_must_be_equal(self):
        letters = [read("own(pair(N%s, N%s))" % pair) for pair in zip(TWELVE, TWELVE[1:] + TWELVE[:1])]
        wishes = [(letters, read("own(pair(?%s, ?%s))" % pair)) for pair in zip("abcdefg", "bcdefgh")]
        self.assertEqual(len(answers(wishes)), 12)
        wishes.append((letters, read("own(pair(?h, ?a))")))
        self.assertEqual(answers(wishes), [])

    def test_long_letters(self):
        letters = [long(read("seal(N%s, pair(?x, mark(N%s)))" % pair), 200) for pair in zip(TWELVE, TWELVE[1:])]
        self.assertTrue(all(195 <= len(letter) <= 200 for letter in letters))
        wishes = [([], read("?x"))]
        for many in range(1, 7):
            wishes.append((letters[:many] + ([] if many < 6 else letters[6:]), long(read("mark(?y)"), 150)))
        wishes.append((wishes[-1][0] + [read("NL")], read("pair(NA, seal(NB, ?y))")))
        told = answers(wishes)
        self.assertGreater(len(told), 0)
        for answer in told:
            check_answer(self, wishes, answer)
        self.assertEqual(answers(wishes[:-1] + [(wishes[-1][0][:-1], read("pair(NA, seal(NB, ?y))"))]), [])

    def test_twenty_deep(self):
        inner, outer = read("pair(?x, ?y)"), read("N")
        for turn in range(18):
            inner = (~inner, inner * Letter("K"), inner ^ +Letter("K"), -inner, Letter("a") + inner)[turn % 5]
        deep = inner.filled(filling_of(x="N", y="M"))
        told = answers([([deep, Letter("K"), -Letter("K")], inner)])
        self.assertTrue(is_told(told, filling_of(x="N", y="M")))
        self.assertFalse(is_told(told, filling_of(x="M", y="N")))

    def test_letters_that_double(self):
        # What the unknowns become is larger by far than what is passed.
        names = "abcdefg"
        letters = [read("own(pair(?%s, ?%s))" % (name, name)) for name in names[1:]]
        wishes = growing(([], "?g"), ([], "?f"), ([], "?e"), ([], "?d"), ([], "?c"), ([], "?b"), ([], "?a"),
                         ([letter.written() for letter in letters], "own(?a)"))
        told = answers(wishes)
        self.assertEqual(len(told), 6)
        for answer in told:
            check_answer(self, wishes, answer)

    def test_drawn(self):
        chance = random.Random(44)
        granted_ones = 0
        for turn in range(150):
            drawer = Drawer(chance, "uvwxyz"[:chance.randint(1, 6)])
            wishes = drawer.wishes(8)
            wishes = [(letters[:12], letter) for letters, letter in wishes]
            wishes = self.orderly(wishes)
            told = answers(wishes)
            granted_ones += len(told) > 0
            for answer in told[:3]:
                check_answer(self, wishes, answer)
        self.assertGreater(granted_ones, 5)

    def test_drawn_long(self):
        chance = random.Random(45)
        for turn in range(40):
            drawer = Drawer(chance, "xyz")
            wishes = []
            for letters, letter in drawer.wishes(8):
                letters = letters[:12]
                for at in range(len(wishes[-1][0]) if wishes else 0, len(letters)):
                    while len(letters[at]) < 100:
                        more = chance.choice(letters[:at + 1])
                        letters[at] = chance.choice([letters[at] + more, letters[at] * more, letters[at] * Letter("K")])
                    if len(letters[at]) > 200:
                        letters[at] = read("K")
                if wishes:
                    letters[:len(wishes[-1][0])] = wishes[-1][0]
                wishes.append((letters, letter))
            wishes = self.orderly(wishes)
            for answer in answers(wishes)[:3]:
                check_answer(self, wishes, answer)

    def orderly(self, wishes):
        """The wishes, with names in place of unknowns that were not wished for."""
        told, found = set(), []
        for letters, letter in wishes:
            free = {unknown: read("N") for held in letters for unknown in held.unknowns() if unknown not in told}
            before = found[-1][0] if found else []
            found.append((before + [held.filled(free) for held in letters[len(before):]], letter))
            told |= set(letter.unknowns())
        return found


class ThreeSittings(Timed):

    def check(self, many, held, sittings, goal):
        deeds = seek(held, sittings, goal)
        self.assertEqual(None if deeds is None else len(deeds), many)
        if deeds is not None:
            world = World(held, sittings)
            world.perform(deeds)
            self.assertIs(reached(world, goal), True)

    def sealed(self, unknown):
        return row("await", "seal(?" + unknown + ", K)")

    def test_five_awaits_with_much_to_choose_from(self):
        # Each await takes any of twelve letters, and what is sent behind it.
        one = Role("one", [], [read("K")], [], [
            self.sealed("x"), row("send", "mark(?x)"), self.sealed("y"), row("send", "mark(pair(?x, ?y))"),
            row("claim", "pair(?x, ?y)", "done")])
        two = Role("two", [], [read("K")], [], [
            self.sealed("x"), row("send", "seal(?x, K)"), self.sealed("y"), row("send", "seal(pair(?x, ?y), K)")])
        three = Role("three", [], [read("K")], [], [self.sealed("x"), row("send", "seal(mark(?x), K)")])
        held = Book([one, two, three], [read("seal(N%s, K)" % name) for name in TWELVE])
        sittings = [("one", {}), ("two", {}), ("three", {})]
        self.check(3, held, sittings, holds("mark(pair(NA, mark(NA)))"))
        self.check(5, held, sittings, holds("mark(pair(NA, pair(NB, mark(NC))))"))
        self.check(5, held, sittings, holds("mark(pair(pair(NB, mark(NC)), NA))"))
        self.check(4, held, sittings, holds("mark(pair(pair(NL, NK), NK))"))
        self.check(None, held, sittings, holds("mark(pair(mark(NA), mark(NB)))"))
        self.check(None, held, sittings, holds("seal(mark(NA), mark(pair(NA, pair(mark(NB), mark(NC)))))"))
        self.check(1, held, sittings, holds("mark(mark(mark(NA)))"))
        self.check(None, held, sittings, holds("NA"))
        self.check(2, held, sittings, LONE)
        self.check(None, held, sittings, ("lone", "begun", "done"))

    def test_claims_that_must_be_equal(self):
        begun = [row("claim", "N" + name, "begun") for name in TWELVE]
        ahead = Role("ahead", [], [read("N" + name) for name in TWELVE], [], begun)
        five = Role("five", [], [read("K")], [], [
            step for unknown in "vwxyz" for step in (self.sealed(unknown), row("claim", "?" + unknown, "done"))])
        held = Book([ahead, five], [read("seal(N%s, K)" % name) for name in TWELVE])
        self.check(1, held, [("five", {})], LONE)
        self.check(2, held, [("ahead", {}), ("five", {})], LONE)
        self.check(3, held, [("ahead", {}), ("five", {}), ("ahead", {})], LONE)
        fourfold = Role("ahead", [], [read("NA"), read("NB")], [], [row("claim", "N" + name, "begun") for name in "ABABAB"] * 2)
        held = Book([fourfold, five], [read("seal(NA, K)"), read("seal(NB, K)")])
        self.check(None, held, [("ahead", {}), ("five", {})], LONE)
        held = Book([fourfold, five], [read("seal(NA, K)"), read("seal(NB, K)"), read("seal(a, K)")])
        self.check(1, held, [("ahead", {}), ("five", {})], LONE)

    def test_a_go_between(self):
        # Two talk by way of somebody whom both trust.
        asks = Role("asks", ["me", "you", "key"], [read("?key")], ["N", "SECRET"], [
            row("send", "pair(?me, pair(?you, N))"), row("await", "seal(pair(N, pair(?you, ?k)), ?key)"),
            row("send", "seal(SECRET, ?k)"), row("claim", "pair(?me, pair(?you, ?k))", "begun")])
        helps = Role("helps", ["one", "other", "keya", "keyb"], [read("?keya"), read("?keyb")], ["S"], [
            row("await", "pair(?one, pair(?other, ?n))"), row("send", "seal(pair(?n, pair(?other, S)), ?keya)"),
            row("send", "seal(pair(?one, S), ?keyb)")])
        tells = Role("tells", ["me", "key"], [read("?key")], ["N"], [
            row("await", "seal(pair(?you, ?k), ?key)"), row("send", "seal(N, ?k)"), row("await", "seal(mark(N), ?k)"),
            row("claim", "pair(?you, pair(?me, ?k))", "done")])
        held = Book([asks, helps, tells], [read(text) for text in ("A", "B", "C", "KC")])
        whole = [("asks", filling_of(me="A", you="B", key="KA")),
                 ("helps", filling_of(one="A", other="B", keya="KA", keyb="KB")), ("tells", filling_of(me="B", key="KB"))]
        for text in ("SECRET0", "S1", "N2", "KA", "KB"):
            self.check(None, held, whole, holds(text))
        self.check(2, held, whole, ("lone", "begun", "done"))
        self.check(None, held, whole, LONE)
        for text in ("seal(N2, S1)", "pair(seal(SECRET0, S1), N0)"):
            self.check(2, held, whole, holds(text))
        self.check(2, held, [("helps", filling_of(one="C", other="B", keya="KC", keyb="KB")),
                             ("tells", filling_of(me="B", key="KB"))], holds("N1"))

    def test_long_roles_and_letters(self):
        twelve = [long(read("seal(N%s, K)" % name), 200) for name in TWELVE]
        rows = []
        for unknown in "vwxyz":
            rows += [("await", long(read("seal(?%s, K)" % unknown), 150)), ("send", long(read("mark(?%s)" % unknown), 200))]
        role = Role("long", ["p", "q", "r", "s", "t"], [read("K"), read("pair(B, C)")], ["M"],
                    rows + [row("send", "seal(pair(?v, ?z), pair(?p, ?q))"), row("claim", "pair(?z, pair(?r, ?t))", "done")])
        others = [Role(title, [], [], [], []) for title in ("a", "b", "c", "d", "e")]
        held = Book([role] + others, twelve + [read("B"), read("C")])
        sitting = ("long", filling_of(p="A", q="B", r="mark(C)", s="a", t="K"))
        start = time.monotonic()
        self.check(5, held, [sitting], holds("seal(pair(NA, NB), pair(A, B))"))
        self.check(None, held, [sitting], holds("seal(pair(NA, mark(NB)), pair(A, B))"))
        self.check(None, held, [sitting], holds("mark(mark(pair(NA, NB)))"))
        held = Book([role] + others, twelve + [read("B"), read("C"), read("K")])
        self.check(5, held, [sitting], holds("seal(pair(NA, NB), pair(A, B))"))
        self.check(5, held, [sitting], LONE)
        self.assertLess(time.monotonic() - start, 15)

    def test_books_as_texts(self):
        awaits = [row("await", "lock(pair(?%s, ?x), open(?me))" % unknown) for unknown in "abcde"]
        roles = [Role(title, ["me", "you", "we", "they", "all"], [read("own(?me)")], ["N", "M"],
                      awaits + [row("send", "lock(pair(?x, M), open(?you))")] * 7)
                 for title in ("one", "two", "three", "four", "five", "six")]
        book = Book(roles, [long(read("N" + name), 20) for name in TWELVE])
        text = book_text(book)
        self.assertEqual(book_text(book_read(text)), text)
        desk = Desk(book, [("one", filling_of(me="A", you="B", we="a", they="a", all="a"))])
        self.assertEqual(desk.tell("seek NL"), ["gives 0"])
        self.assertEqual(desk.tell("seek own(A)"), ["never"])


class ManyFillings(Timed):

    def test_granted(self):
        letters = [long(read("seal(N%s, pair(?x, K))" % name), 200) for name in TWELVE]
        wishes = [([], read("?x"))] + [(letters, long(read("mark(N%s)" % name), 100)) for name in TWELVE[:7]]
        filling = {"x": read("a"), "y": read("?z")}
        self.assertIs(granted(wishes, filling), False)
        wishes = [(held + [read("K")], letter) for held, letter in wishes]
        self.assertEqual(unknowns_of(wishes), ["x"])
        self.assertIs(granted(wishes, filling), True)
        tree = read("pair(a, K)")
        for turn in range(5):
            tree = tree + tree
        self.assertIs(granted(wishes, {"x": tree}), True)
        self.assertIs(granted(wishes, {"x": long(read("NZ"), 190)}), False)
        self.assertGreater(len(oracle.parts_of(wishes[-1][0][0].form())), 190)


if __name__ == "__main__":
    unittest.main()
