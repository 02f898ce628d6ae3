"""The examples of README.md run, and what is told beside them holds."""

import pathlib
import unittest

README = pathlib.Path(__file__).resolve().parent.parent / "README.md"


class Examples(unittest.TestCase):

    def test_they_run(self):
        pieces = README.read_text(encoding="utf-8").split("```python\n")[1:]
        self.assertEqual(len(pieces), 6)
        names = {}
        for piece in pieces:
            exec(piece.split("```")[0], names)
        self.assertEqual(names["filling"]["x"].written(), "pair(hello, K)")
        self.assertEqual(names["heap"].recipe(names["Letter"]("M")), ("unseal", ("at", 0), ("at", 1)))
        self.assertEqual([part.written() for part in names["heap"].parts()], ["K", "M", "seal(M, K)"])
        self.check_wishes_and_seeking(names)
        self.assertEqual(names["desk"].tell("wants 0"), ["pair(N0, ?x)"])
        self.assertEqual(names["desk"].tell("give 1 lock(N0, open(B))"), ["sent pair(N0, yes)", "ended"])
        self.assertEqual(names["desk"].tell("holds N0"), ["yes"])
        self.assertEqual(names["desk"].tell("seek N0"), ["gives 1"])

    def check_wishes_and_seeking(self, names):
        told = names["told"]
        self.assertEqual([(found["x"].written(), rest) for found, rest in told if found], [("M", [])])
        rests = [[([held.written() for held in letters], letter.written()) for letters, letter in rest]
                 for found, rest in told if not found]
        self.assertEqual(rests, [[(["K", "mark(M)"], "?x")]])
        self.assertEqual(len(names["deeds"]), 2)
        self.assertIs(names["reached"](names["world"], names["goal"]), True)
        self.assertIsNone(names["seek"](names["book"], names["sittings"], ("holds", names["Letter"].read("own(B)"))))

    def test_the_world_runs(self):
        names = {}
        for piece in README.read_text(encoding="utf-8").split("```python\n")[1:4]:
            exec(piece.split("```")[0], names)
        world = names["world"]
        self.assertEqual([letter.written() for letter in world.heap().letters()],
                         ["B", "lock(N0, open(B))", "pair(N0, yes)"])
        self.assertEqual(world.wants(0).written(), "pair(N0, ?x)")
        world.perform([(0, ("at", 2))])
        self.assertEqual(world.claims(), [("done", names["Letter"]("yes"), 0)])


if __name__ == "__main__":
    unittest.main()
