"""Worlds: their beginning, what is given, and what is told of them (points 20, 21)."""

import unittest

from openroads.errors import NoMatch, NoSitting, NotHeld, NotPlain, NotWaiting
from openroads.heaps import Heap
from openroads.letters import Letter
from openroads.roles import Book, Role
from openroads.worlds import World
from town import BOOK, filling_of, of_two, seen, world_of

read = Letter.read


def texts(letters):
    return [letter.written() for letter in letters]


class Beginning(unittest.TestCase):

    def test_the_rows_up_to_the_first_await(self):
        world = of_two()
        self.assertEqual(texts(world.heap().letters()), ["A", "B", "C", "own(C)", "lock(pair(N0, A), open(B))"])
        self.assertEqual(world.claims(), [("begun", read("pair(N0, B)"), 0)])
        self.assertEqual(world.gives(), [])
        self.assertEqual(world.wants(0), read("lock(pair(N0, ?x), open(A))"))
        self.assertEqual(world.wants(1), read("lock(pair(?x, ?you), open(B))"))
        self.assertEqual(world.filling(0), filling_of(me="A", you="B"))
        self.assertEqual(world.filling(1), filling_of(me="B"))

    def test_nobody_and_nothing(self):
        world = World(Book([], []), [])
        self.assertEqual((world.heap(), world.claims(), world.gives()), (Heap([]), [], []))
        world = World(book=BOOK, sittings=[])
        self.assertEqual(texts(world.heap().letters()), ["A", "B", "C", "own(C)"])

    def test_who_ends_at_once(self):
        world = world_of(("eve", {}), ("eve", {}))
        self.assertEqual(texts(world.heap().letters()), ["A", "B", "C", "own(C)", "a", "b", "a", "b"])
        self.assertEqual(world.claims(), [("done", read("a"), 0), ("done", read("b"), 0), ("done", read("a"), 1),
                                          ("done", read("b"), 1)])
        self.assertIsNone(world.wants(0))
        self.assertIsNone(world.wants(sitting=1))

    def test_the_numbers_behind_fresh_names(self):
        world = world_of(*[("ann", filling_of(me="N", you="B"))] * 4)
        self.assertEqual(texts(world.heap().letters())[4:],
                         ["lock(pair(N%d, N), open(B))" % k for k in range(4)])
        self.assertEqual(world.wants(3), read("lock(pair(N3, ?x), open(N))"))

    def test_a_role_without_rows(self):
        world = World(Book([Role("ann", ["x"], [], [], [])], []), [("ann", filling_of(x="a"))])
        self.assertIsNone(world.wants(0))
        self.assertEqual(world.filling(0), filling_of(x="a"))


class Giving(unittest.TestCase):

    def test_a_run_without_the_stranger(self):
        world = of_two()
        sent = world.give(1, world.heap()[4])
        self.assertEqual(texts(sent), ["lock(pair(N0, N1), open(A))"])
        self.assertEqual(world.filling(1), filling_of(me="B", x="N0", you="A"))
        self.assertEqual(world.wants(1), read("lock(N1, open(B))"))
        sent = world.give(sitting=0, letter=sent[0])
        self.assertEqual(texts(sent), ["lock(N1, open(B))"])
        self.assertEqual(world.filling(0), filling_of(me="A", you="B", x="N1"))
        self.assertIsNone(world.wants(0))
        self.assertEqual(texts(world.give(1, sent[0])), ["seal(b, N1)"])
        self.assertIsNone(world.wants(1))
        self.assertEqual([(word, letter.written(), sitting) for word, letter, sitting in world.claims()],
                         [("begun", "pair(N0, B)", 0), ("begun", "A", 1), ("done", "pair(N0, N1)", 0),
                          ("done", "pair(N0, N1)", 1)])
        letters = ["lock(pair(N0, A), open(B))", "lock(pair(N0, N1), open(A))", "lock(N1, open(B))", "seal(b, N1)"]
        self.assertEqual(texts(world.heap().letters()), ["A", "B", "C", "own(C)"] + letters)
        self.assertEqual([(sitting, letter.written()) for sitting, letter in world.gives()],
                         [(1, letters[0]), (0, letters[1]), (1, letters[2])])

    def test_a_run_with_the_stranger_between(self):
        world = world_of(("ann", filling_of(me="A", you="C")), ("bob", filling_of(me="B")))
        opened = world.heap().run(("unlock", ("at", 4), ("at", 3)))
        self.assertEqual(opened, read("pair(N0, A)"))
        sent = world.give(1, opened ^ read("open(B)"))
        self.assertEqual(texts(world.give(0, sent[0])), ["lock(N1, open(C))"])
        self.assertEqual(texts(world.give(1, read("lock(N1, open(B))"))), ["seal(b, N1)"])
        self.assertIs(read("N1") in world.heap(), True)

    def test_letters_that_the_stranger_makes(self):
        world = world_of(("bob", filling_of(me="B")))
        self.assertEqual(texts(world.give(0, read("lock(pair(mark(a), pair(b, A)), open(B))"))),
                         ["lock(pair(mark(a), N0), open(pair(b, A)))"])
        self.assertEqual(world.filling(0), filling_of(me="B", x="mark(a)", you="pair(b, A)"))
        self.assertEqual(world.claims(), [("begun", read("pair(b, A)"), 0)])

    def test_unknowns_of_earlier_awaits(self):
        world = world_of(("echo", filling_of(k="A")), ("echo", filling_of(k="B")))
        self.assertEqual(world.give(0, read("b")), [])
        self.assertEqual(world.wants(0), read("pair(b, ?y)"))
        self.assertEqual(world.filling(0), filling_of(k="A", x="b"))
        self.assertEqual(world.wants(1), read("?x"))
        with self.assertRaises(NoMatch):
            world.give(0, read("pair(c, d)"))
        self.assertEqual(texts(world.give(0, read("pair(b, open(C))"))), ["pair(open(C), A)", "b"])
        self.assertEqual(world.wants(0), read("mark(open(C))"))
        self.assertEqual(world.filling(1), filling_of(k="B"))
        self.assertEqual(world.give(0, read("mark(open(C))")), [])
        self.assertIsNone(world.wants(0))

    def test_the_same_letter_to_many(self):
        world = world_of(*[("bob", filling_of(me="B"))] * 4)
        for sitting in (2, 0, 3, 1):
            self.assertEqual(texts(world.give(sitting, read("lock(pair(a, A), open(B))"))),
                             ["lock(pair(a, N%d), open(A))" % sitting])
        self.assertEqual([sitting for word, letter, sitting in world.claims()], [2, 0, 3, 1])
        self.assertEqual([sitting for sitting, letter in world.gives()], [2, 0, 3, 1])


class Refused(unittest.TestCase):

    def check(self, world, error, number, *told):
        before = seen(world)
        with self.assertRaises(error) as held:
            world.give(*told)
        self.assertIs(type(held.exception), error)
        if number is not None:
            self.assertEqual(held.exception.number, number)
        self.assertEqual(seen(world), before)
        self.assertIs(world.twin().undo(), len(before[2]) > 0)

    def test_each_error(self):
        world = of_two()
        for number in (2, 3, -1, -2, 100):
            self.check(world, NoSitting, number, number, read("a"))
        self.check(world, NotPlain, None, 0, read("?x"))
        self.check(world, NotPlain, None, 1, read("lock(pair(?x, A), open(B))"))
        self.check(world, NotHeld, None, 0, read("lock(pair(N0, N1), open(A))"))
        self.check(world, NotHeld, None, 0, read("N0"))
        self.check(world, NoMatch, None, 0, read("a"))
        self.check(world, NoMatch, None, 1, read("pair(A, B)"))
        self.check(world, NoMatch, None, 1, read("lock(pair(a, b), open(A))"))
        self.check(world, NoMatch, None, 0, read("lock(pair(a, b), open(A))"))
        self.check(world_of(("eve", {})), NotWaiting, 0, 0, read("a"))

    def test_the_order(self):
        world = world_of(("eve", {}), ("bob", filling_of(me="B")))
        self.check(world, NoSitting, 2, 2, read("?x"))
        self.check(world, NoSitting, -1, -1, read("pair(?x, Z)"))
        self.check(world, NotPlain, None, 0, read("pair(?x, Z)"))
        self.check(world, NotWaiting, 0, 0, read("Z"))
        self.check(world, NotWaiting, 0, 0, read("a"))
        self.check(world, NotPlain, None, 1, read("pair(?x, Z)"))
        self.check(world, NotHeld, None, 1, read("Z"))
        self.check(world, NoMatch, None, 1, read("a"))
        self.check(world, NotHeld, None, 1, read("lock(pair(Z, A), open(B))"))

    def test_after_some_gives(self):
        world = of_two()
        world.give(1, world.heap()[4])
        for error, number, told in ((NoSitting, 2, (2, read("a"))), (NotPlain, None, (0, read("?x"))),
                                    (NotHeld, None, (0, read("N1"))), (NoMatch, None, (0, read("a"))),
                                    (NoMatch, None, (1, world.heap()[4]))):
            self.check(world, error, number, *told)
        world.give(0, world.heap()[5])
        self.check(world, NotWaiting, 0, 0, read("a"))
        self.check(world, NotWaiting, 0, 0, world.heap()[5])

    def test_wants_and_filling(self):
        world = of_two()
        for number in (2, -1, -2, 50):
            for call in (world.wants, world.filling):
                with self.assertRaises(NoSitting) as held:
                    call(number)
                self.assertEqual(held.exception.number, number)


class NewThings(unittest.TestCase):

    def test_what_returns_is_new(self):
        world = of_two()
        sent = world.give(1, world.heap()[4])
        before = seen(world)
        sent.clear()
        world.claims().clear()
        world.gives().append((0, read("a")))
        world.filling(0).clear()
        world.filling(1)["x"] = read("a")
        held = world.heap()
        held += read("b")
        world.heap().letters().clear()
        self.assertEqual(seen(world), before)
        self.assertIsNot(world.heap(), world.heap())
        self.assertEqual(len(held), len(world.heap()) + 1)

    def test_a_heap_stays_as_it_was(self):
        world = of_two()
        held = world.heap()
        world.give(1, held[4])
        self.assertEqual((len(held), len(world.heap())), (5, 6))
        self.assertEqual(held, of_two().heap())


if __name__ == "__main__":
    unittest.main()
