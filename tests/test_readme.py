"""The examples of README.md run, and what is told beside them holds."""

import pathlib
import unittest

README = pathlib.Path(__file__).resolve().parent.parent / "README.md"


class Examples(unittest.TestCase):

    def test_they_run(self):
        pieces = README.read_text(encoding="utf-8").split("```python\n")[1:]
        self.assertEqual(len(pieces), 3)
        names = {}
        for piece in pieces:
            exec(piece.split("```")[0], names)
        self.assertEqual(names["filling"]["x"].written(), "pair(hello, K)")
        self.assertEqual(names["heap"].recipe(names["Letter"]("M")), ("unseal", ("at", 0), ("at", 1)))
        self.assertEqual([part.written() for part in names["heap"].parts()], ["K", "M", "seal(M, K)"])
        world = names["world"]
        self.assertEqual([letter.written() for letter in world.heap().letters()],
                         ["B", "lock(N0, open(B))", "pair(N0, yes)"])
        self.assertEqual(world.wants(0).written(), "pair(N0, ?x)")
        world.perform([(0, ("at", 2))])
        self.assertEqual(world.claims(), [("done", names["Letter"]("yes"), 0)])


if __name__ == "__main__":
    unittest.main()
