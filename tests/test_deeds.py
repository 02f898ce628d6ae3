"""Deeds, and how they are taken back (point 22)."""

import unittest

from openroads.errors import BadRecipe, NoMatch, NoSitting, NotDone, NotHeld, NotPlain, NotWaiting, NoWay
from openroads.letters import Letter
from town import filling_of, of_two, seen, world_of

read = Letter.read

# What leads a world of two to its end.
FIRST, SECOND, THIRD = (1, ("at", 4)), (0, ("at", 5)), (1, ("at", 6))


class Perform(unittest.TestCase):

    def check(self, world, deeds, place, error):
        before, undone = seen(world), can_be_undone(world)
        with self.assertRaises(NotDone) as held:
            world.perform(deeds)
        self.assertEqual(held.exception.place, place)
        self.assertIs(type(held.exception.__cause__), error)
        self.assertEqual(seen(world), before)
        self.assertEqual(can_be_undone(world), undone)
        return held.exception.__cause__

    def test_done(self):
        world, other = of_two(), of_two()
        self.assertIsNone(world.perform([FIRST, SECOND, THIRD]))
        for sitting, (at, k) in (FIRST, SECOND, THIRD):
            other.give(sitting, other.heap()[k])
        self.assertEqual(seen(world), seen(other))
        self.assertIsNone(world.wants(1))

    def test_none(self):
        world = of_two()
        self.assertIsNone(world.perform([]))
        self.assertEqual(seen(world), seen(of_two()))
        self.assertIs(world.undo(), False)

    def test_recipes_of_the_heap_by_then(self):
        world = world_of(("ann", filling_of(me="A", you="C")), ("bob", filling_of(me="B")))
        deeds = [(1, ("lock", ("unlock", ("at", 4), ("at", 3)), ("open", ("at", 1)))), SECOND,
                 (1, ("lock", ("unlock", ("at", 6), ("at", 3)), ("open", ("at", 1))))]
        self.assertIsNone(world.perform(deeds=deeds))
        self.assertEqual(world.heap()[7], read("seal(b, N1)"))
        self.assertEqual(len(deeds), 3)

    def test_each_cause(self):
        ended = world_of(("eve", {}), ("bob", filling_of(me="B")))
        for deed, error in (((1, ("at",)), BadRecipe), ((1, "a"), BadRecipe), ((1, ("at", 4, 4)), BadRecipe),
                            ((1, ("at", 40)), NoWay), ((1, ("first", ("at", 4))), NoWay), ((2, ("at", 4)), NoSitting),
                            ((-1, ("at", 4)), NoSitting), ((0, ("at", 4)), NotWaiting), ((1, ("at", 0)), NoMatch),
                            ((1, ("word", "a")), NoMatch)):
            self.check(ended, [deed], 0, error)
            self.check(ended, [(1, ("lock", ("pair", ("at", 0), ("at", 1)), ("open", ("at", 1)))), deed], 1, error)

    def test_what_a_cause_tells(self):
        world = of_two()
        self.assertEqual(self.check(world, [FIRST, (0, ("mark", ("first", ("at", 0))))], 1, NoWay).step,
                         ("first", ("at", 0)))
        self.assertEqual(self.check(world, [FIRST, SECOND, (5, ("at", 0))], 2, NoSitting).number, 5)
        self.assertEqual(self.check(world, [FIRST, SECOND, THIRD, THIRD], 3, NotWaiting).number, 1)

    def test_the_first_one_counts(self):
        self.check(of_two(), [FIRST, FIRST, (0, None), (9, ("at", 0))], 1, NoMatch)
        self.check(of_two(), [(0, None), (9, ("at", 0))], 0, BadRecipe)
        self.check(of_two(), [FIRST, SECOND, (9, ("at", 0)), (0, None)], 2, NoSitting)

    def test_what_was_given_before_stays(self):
        world = of_two()
        world.perform([FIRST])
        self.check(world, [SECOND, SECOND], 1, NotWaiting)
        self.check(world, [THIRD], 0, NoWay)
        world.perform([SECOND, THIRD])
        self.check(world, [THIRD], 0, NotWaiting)
        self.assertEqual(len(world.gives()), 3)


def can_be_undone(world):
    """How many gives can be taken back."""
    twin, many = world.twin(), 0
    while twin.undo():
        many += 1
    return many


class Undo(unittest.TestCase):

    def test_to_the_beginning_and_behind_it(self):
        world = of_two()
        moments = [seen(world)]
        for sitting, (at, k) in (FIRST, SECOND, THIRD):
            world.give(sitting, world.heap()[k])
            moments.append(seen(world))
        self.assertEqual([len(moment[2]) for moment in moments], [0, 1, 2, 3])
        for moment in moments[-2::-1]:
            self.assertIs(world.undo(), True)
            self.assertEqual(seen(world), moment)
        for turn in range(3):
            self.assertIs(world.undo(), False)
            self.assertEqual(seen(world), moments[0])
        world.perform([FIRST, SECOND, THIRD])
        self.assertEqual(seen(world), moments[3])

    def test_a_perform_is_taken_back_give_by_give(self):
        world = of_two()
        world.give(1, world.heap()[4])
        one = seen(world)
        world.perform([SECOND, THIRD])
        self.assertEqual(len(world.gives()), 3)
        self.assertIs(world.undo(), True)
        self.assertEqual(len(world.gives()), 2)
        self.assertIs(world.undo(), True)
        self.assertEqual(seen(world), one)
        self.assertIs(world.undo(), True)
        self.assertEqual(seen(world), seen(of_two()))
        self.assertIs(world.undo(), False)

    def test_another_way_after_it(self):
        world = of_two()
        world.give(1, world.heap()[4])
        world.undo()
        sent = world.give(1, read("lock(pair(a, C), open(B))"))
        self.assertEqual(sent, [read("lock(pair(a, N1), open(C))")])
        self.assertEqual(world.filling(1), filling_of(me="B", x="a", you="C"))
        self.assertEqual(world.claims()[1:], [("begun", read("C"), 1)])

    def test_refused_gives_are_not_there_to_be_taken_back(self):
        world = of_two()
        world.perform([FIRST])
        for told, error in (((0, read("Z")), NotHeld), ((0, read("?x")), NotPlain), ((0, read("a")), NoMatch)):
            with self.assertRaises(error):
                world.give(*told)
        self.assertEqual(can_be_undone(world), 1)


class Twin(unittest.TestCase):

    def test_it_is_as_this_one(self):
        world = of_two()
        self.assertEqual(seen(world.twin()), seen(world))
        world.perform([FIRST, SECOND])
        twin = world.twin()
        self.assertIsNot(twin, world)
        self.assertIs(type(twin), type(world))
        self.assertEqual(seen(twin), seen(world))
        self.assertEqual(can_be_undone(twin), 2)

    def test_it_goes_its_own_way(self):
        world = of_two()
        world.perform([FIRST])
        one = seen(world)
        twin = world.twin()
        twin.perform([SECOND, THIRD])
        self.assertEqual(seen(world), one)
        self.assertEqual(can_be_undone(world), 1)
        self.assertEqual(len(twin.gives()), 3)
        other = twin.twin()
        while twin.undo():
            pass
        self.assertEqual(seen(twin), seen(of_two()))
        self.assertEqual(seen(world), one)
        self.assertEqual(len(other.gives()), 3)
        world.undo()
        world.give(1, read("lock(pair(a, C), open(B))"))
        self.assertEqual(seen(twin), seen(of_two()))
        self.assertEqual(can_be_undone(other), 3)
        twin.perform([FIRST, SECOND, THIRD])
        self.assertEqual(seen(twin), seen(other))


class Wrong(Exception):
    """An error of a function that is tried."""


class Trial(unittest.TestCase):

    def check(self, world, work, told):
        before, undone = seen(world), can_be_undone(world)
        self.assertEqual(world.trial(work), told)
        self.assertEqual(seen(world), before)
        self.assertEqual(can_be_undone(world), undone)
        self.assertEqual(world.trial(work=work), told)

    def worlds(self):
        for many in range(4):
            world = of_two()
            world.perform([FIRST, SECOND, THIRD][:many])
            yield many, world

    def test_it_returns_what_the_function_returns(self):
        for many, world in self.worlds():
            self.check(world, lambda held: held is world, True)
            self.check(world, lambda held: None, None)
            self.check(world, lambda held: len(held.gives()), many)

    def test_it_gives(self):
        for many, world in self.worlds():
            def work(held):
                held.perform([FIRST, SECOND, THIRD][many:])
                return seen(held)
            done = of_two()
            done.perform([FIRST, SECOND, THIRD])
            self.check(world, work, seen(done))

    def test_it_takes_back(self):
        for many, world in self.worlds():
            def work(held):
                while held.undo():
                    pass
                return seen(held)
            self.check(world, work, seen(of_two()))

    def test_it_takes_back_and_gives_otherwise(self):
        for many, world in self.worlds():
            def work(held):
                while held.undo():
                    pass
                held.give(1, read("lock(pair(a, C), open(B))"))
                return len(held.gives())
            self.check(world, work, 1)

    def test_a_trial_within_a_trial(self):
        for many, world in self.worlds():
            def inner(held):
                while held.undo():
                    pass
                held.perform([FIRST])
                return len(held.gives())

            def work(held):
                held.perform([FIRST, SECOND, THIRD][many:])
                before = seen(held)
                told = held.trial(inner)
                return (told, seen(held) == before, can_be_undone(held))
            self.check(world, work, (1, True, 3))

    def test_it_ends_by_an_error(self):
        for many, world in self.worlds():
            for error in (Wrong, NoMatch, KeyboardInterrupt):
                def work(held):
                    while held.undo():
                        pass
                    held.give(1, read("lock(pair(a, C), open(B))"))
                    raise error()
                before, undone = seen(world), can_be_undone(world)
                with self.assertRaises(error):
                    world.trial(work)
                self.assertEqual(seen(world), before)
                self.assertEqual(can_be_undone(world), undone)

    def test_errors_of_the_world_leave_it_too(self):
        world = of_two()
        world.perform([FIRST])

        def work(held):
            held.perform([SECOND])
            held.perform([THIRD, THIRD])
        with self.assertRaises(NotDone) as caught:
            world.trial(work)
        self.assertEqual(caught.exception.place, 1)
        self.assertEqual(len(world.gives()), 1)
        self.assertEqual(can_be_undone(world), 1)

    def test_a_twin_out_of_a_trial(self):
        world = of_two()

        def work(held):
            held.perform([FIRST, SECOND])
            return held.twin()
        twin = world.trial(work)
        self.assertEqual(can_be_undone(twin), 2)
        self.assertEqual(can_be_undone(world), 0)
        twin.perform([THIRD])
        self.assertEqual(seen(world), seen(of_two()))


if __name__ == "__main__":
    unittest.main()
