"""Goals, and whether they hold in a world (point 25)."""

import unittest

from openroads.errors import BadGoal
from openroads.letters import Letter
from openroads.roles import Book, Role
from openroads.seeking import reached, seek
from openroads.worlds import World
from town import BOOK, filling_of, of_two, row, seen, world_of

read = Letter.read


def world_with(*claims):
    """A world in which these words and letters are claimed, a sitting for each."""
    names = sorted({name for word, text in claims for name in read(text).names()})
    roles = [Role("role" + "abcdefgh"[at], [], [read(name) for name in names], [], [row("claim", text, word)])
             for at, (word, text) in enumerate(claims)]
    return World(Book(roles, []), [(role.title, {}) for role in roles])


class Holds(unittest.TestCase):

    def test_at_the_beginning(self):
        world = of_two()
        for text in ("A", "own(C)", "word", "mark(pair(A, open(B)))", "lock(pair(N0, A), open(B))", "lock(a, own(C))"):
            self.assertIs(reached(world, ("holds", read(text))), True)
        for text in ("N0", "N1", "own(A)", "D", "mark(N0)", "pair(A, N0)"):
            self.assertIs(reached(world, ("holds", read(text))), False)

    def test_later(self):
        world, goal = world_of(("ann", filling_of(me="A", you="C")), ("bob", filling_of(me="B"))), ("holds", read("N1"))
        self.assertIs(reached(world, goal), False)
        world.give(1, read("lock(pair(a, C), open(B))"))
        self.assertIs(reached(world, goal), True)
        world.undo()
        self.assertIs(reached(world, goal), False)


class Lone(unittest.TestCase):

    def check(self, expected, *claims):
        world = world_with(*claims)
        self.assertIs(reached(world, ("lone", "done", "begun")), expected)
        self.assertIs(reached(world, ("lone", "begun", "begun")), False)
        self.assertIs(reached(world, ("lone", "done", "done")), False)
        self.assertIs(reached(world, ("lone", "other", "begun")), False)

    def test_counted(self):
        done, begun = ("done", "K"), ("begun", "K")
        self.check(False)
        self.check(True, done)
        self.check(False, begun)
        self.check(False, done, begun)
        self.check(False, begun, done)
        self.check(True, done, begun, done)
        self.check(False, begun, done, begun, done)
        self.check(True, done, done, begun, begun, done)
        self.check(False, begun, begun, done)

    def test_letter_by_letter(self):
        self.check(True, ("done", "K"), ("begun", "M"))
        self.check(True, ("done", "K"), ("begun", "K"), ("done", "M"))
        self.check(True, ("begun", "K"), ("done", "M"), ("done", "K"), ("begun", "M"), ("done", "pair(K, M)"))
        self.check(True, ("begun", "K"), ("begun", "K"), ("done", "mark(K)"))
        self.check(False, ("begun", "K"), ("begun", "M"), ("done", "M"), ("done", "K"))
        self.check(True, ("begun", "pair(K, M)"), ("done", "pair(M, K)"))

    def test_other_words(self):
        world = world_with(("one", "a"), ("two", "a"), ("one", "b"))
        self.assertIs(reached(world, ("lone", "one", "two")), True)
        self.assertIs(reached(world, ("lone", "two", "one")), False)
        self.assertIs(reached(world, ("lone", "two", "three")), True)
        self.assertIs(reached(world, ("lone", "three", "one")), False)

    def test_in_time(self):
        world = of_two()
        goals = ("lone", "done", "begun"), ("lone", "begun", "done")
        self.assertEqual([reached(world, goal) for goal in goals], [False, True])
        world.perform([(1, ("at", 4))])
        self.assertEqual([reached(world, goal) for goal in goals], [False, True])
        world.perform([(0, ("at", 5))])
        self.assertEqual([reached(world, goal) for goal in goals], [True, True])


class Refused(unittest.TestCase):

    def test_no_goals(self):
        letter = read("K")
        world = of_two()
        before = seen(world)
        for thing in (None, "holds", "lone", letter, (), [], ("holds",), ("lone",), ("holds", letter, letter),
                      ["holds", letter], ["lone", "done", "begun"], ("lone", "done"), ("lone", "done", "begun", "more"),
                      ("holds", "K"), ("holds", None), ("holds", ("name", "K")), ("holds", [letter]), ("holds", read("?x")),
                      ("holds", read("pair(K, lock(a, open(?x)))")), ("held", letter), ("", letter), (None, letter),
                      (letter, letter), (("holds",), letter), (["holds"], letter), ("lone", letter, letter),
                      ("held", "done", "begun"), ("", "done", "begun"), ("done", "done", "begun"), ("lone", "done", letter), ("lone", letter, "begun"), ("lone", "Done", "begun"),
                      ("lone", "done", "begun2"), ("lone", "", "begun"), ("lone", "done", ""), ("lone", "done", None),
                      ("lone", "ninechars", "begun"), ("lone", "done", "ninechars"), ("lone", ["done"], "begun"),
                      ("lone", "?x", "begun"), ("lone", "done", ("begun",)), ("Holds", letter), ("holds ", letter),
                      (("holds", letter),), [("holds", letter)], ("lone", "do ne", "begun"), ("lone", "done\n", "begun")):
            with self.subTest(thing=thing):
                for call in (lambda: reached(world, thing), lambda: reached(world=world, goal=thing),
                             lambda: seek(BOOK, [], thing)):
                    with self.assertRaises(BadGoal) as held:
                        call()
                    self.assertEqual(vars(held.exception), {})
        self.assertEqual(seen(world), before)

    def test_goals_at_the_edge(self):
        for goal in (("lone", "a", "eightchr"), ("lone", "done", "done"), ("holds", read("pair"))):
            self.assertIn(reached(of_two(), goal), (True, False))

    def test_by_names(self):
        self.assertIs(reached(world=of_two(), goal=("holds", read("A"))), True)


if __name__ == "__main__":
    unittest.main()
