"""Books and sittings (points 18, 19)."""

import unittest

from openroads.errors import BadBook, BadSitting
from openroads.letters import Letter
from openroads.roles import Book, Role
from openroads.worlds import World

read = Letter.read


def role(title, params=(), knows=(), fresh=(), rows=()):
    return Role(title, list(params), [read(text) for text in knows], list(fresh), list(rows))


class Books(unittest.TestCase):

    def check_bad(self, field, titles, known):
        with self.assertRaises(BadBook) as held:
            Book([role(title) for title in titles], [read(text) for text in known])
        self.assertEqual(held.exception.field, field)

    def test_two_equal_titles(self):
        self.check_bad("roles", ["ann", "ann"], [])
        self.check_bad("roles", ["ann", "bob", "eve", "bob"], ["a"])
        same = role("ann")
        with self.assertRaises(BadBook):
            Book([same, same], [])

    def test_known(self):
        for known in (["?x"], ["a", "mark(?x)"], ["K1"], ["a", "K", "seal(a, K0)"], ["pair(?x, K1)"]):
            self.check_bad("known", [], known)
            self.check_bad("known", ["ann", "bob"], known)

    def test_both_at_once(self):
        self.check_bad("roles", ["ann", "ann"], ["?x"])
        self.check_bad("roles", ["ann", "ann"], ["K1"])

    def test_attributes(self):
        roles, known = [role("ann"), role("bob")], [read("K"), read("a"), read("K")]
        for book in (Book(roles, known), Book(roles=roles, known=known)):
            for turn in range(2):
                self.assertEqual([held.title for held in book.roles], ["ann", "bob"])
                self.assertIs(book.roles[0], roles[0])
                self.assertEqual(book.known, [read("K"), read("a"), read("K")])
                self.assertIsNot(book.known, book.known)
                self.assertIsNot(book.roles, book.roles)
                book.roles.clear()
                book.known.append(read("b"))
        book = Book(roles, known)
        roles.pop()
        known.append(read("b"))
        self.assertEqual((len(book.roles), len(book.known)), (2, 3))
        self.assertEqual((Book([], []).roles, Book([], []).known), ([], []))


BOOK = Book([
    role("ann", ["me", "you"], ["own(?me)"], ["N", "M"],
         [("send", read("pair(?me, pair(N, lock(M, open(?you))))")), ("claim", "begun", read("mark(N)"))]),
    role("bob", rows=[("send", read("b"))]),
], [read("K")])


class Sittings(unittest.TestCase):

    def sitting(self, title, **texts):
        return (title, {unknown: read(text) for unknown, text in texts.items()})

    def check_bad(self, index, *sittings):
        with self.assertRaises(BadSitting) as held:
            World(BOOK, list(sittings))
        self.assertEqual(held.exception.index, index)

    def test_bad_ones(self):
        good = self.sitting("ann", me="A", you="B")
        for bad in (self.sitting("eve"), self.sitting(""), self.sitting("Ann", me="A", you="B"),
                    self.sitting("ann", me="A"), self.sitting("ann"), self.sitting("ann", you="A"),
                    self.sitting("ann", me="A", you="B", other="a"), self.sitting("ann", me="A", other="B"),
                    self.sitting("bob", me="A"), self.sitting("ann", me="?x", you="B"),
                    self.sitting("ann", me="A", you="mark(?you)"), self.sitting("ann", me="A", you="?you"),
                    self.sitting("ann", me="A1", you="B"), self.sitting("ann", me="A", you="pair(a, own(B0))")):
            self.check_bad(0, bad)
            self.check_bad(1, good, bad, bad)
            self.check_bad(2, good, self.sitting("bob"), bad, good)

    def test_names_get_the_number_of_the_sitting(self):
        world = World(BOOK, [self.sitting("ann", me="N", you="pair(M, N)"), self.sitting("bob"),
                             self.sitting("ann", me="A", you="B")])
        self.assertEqual([letter.written() for letter in world.heap().letters()],
                         ["K", "pair(N, pair(N0, lock(M0, open(pair(M, N)))))", "b",
                          "pair(A, pair(N2, lock(M2, open(B))))"])
        self.assertEqual([(word, letter.written(), sitting) for word, letter, sitting in world.claims()],
                         [("begun", "mark(N0)", 0), ("begun", "mark(N2)", 2)])

    def test_what_is_passed_stays(self):
        filling = {"me": read("A"), "you": read("B")}
        sittings = [("ann", filling)]
        world = World(BOOK, sittings)
        filling["me"] = read("C")
        sittings.append(("bob", {}))
        self.assertEqual(world.filling(0), {"me": read("A"), "you": read("B")})
        self.assertEqual(world.twin().filling(0), {"me": read("A"), "you": read("B")})
        world.filling(0)["me"] = read("C")
        self.assertEqual(world.filling(0), {"me": read("A"), "you": read("B")})
        with self.assertRaises(BadSitting):
            World(book=BOOK, sittings=[("bob", filling)])

    def test_names_of_the_book_are_no_fresh_names(self):
        book = Book([role("ann", [], ["K"], ["N"], [("send", read("seal(N, pair(K, n))"))])], [read("N"), read("K")])
        world = World(book, [("ann", {})] * 4)
        self.assertEqual([letter.written() for letter in world.heap().letters()],
                         ["N", "K"] + ["seal(N" + str(k) + ", pair(K, n))" for k in range(4)])


if __name__ == "__main__":
    unittest.main()
