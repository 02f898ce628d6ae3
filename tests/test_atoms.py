"""Atoms: words, names, unknowns."""

import unittest

from openroads.errors import BadAtom
from openroads.letters import Letter

WORDS = ["a", "z", "word", "abcdefgh", "stuvwxyz", "pair", "seal", "lock", "mark", "open", "own", "unknown"]
NAMES = ["A", "Z", "K0", "K9", "AB12", "ABCDEFGH", "STUVWXYZ", "A1234567", "ABCDEFG8", "KEY007", "A00"]
UNKNOWNS = ["x", "z", "abcdefg", "tuvwxyz", "open", "word"]

BAD = [
    "", " ", "?", "??", "??x", "x?", "?x?", "? x",
    "abcdefghi", "ABCDEFGHI", "ABCDEFGH1", "A12345678", "?abcdefgh",
    "1", "0", "12", "1A", "0A", "12AB", "A1B", "A0Z9", "AB1C",
    "aB", "Ab", "aA1", "Aa1", "a1", "1a", "word1", "?X", "?Xa", "?xA", "?x1", "?1", "?A", "?A1",
    " a", "a ", "a b", " A", "A ", "A 1", "?x ", " ?x", "\n", "a\n", "\na", "A\n", "A1\n", "?x\n", "a\t", "a\x00",
    "a-b", "a_b", "_", "-", "+a", "~a", "a.", "A.1", "a,", "a,b", "(", ")", "()", "a)", "mark(a)", "pair(a, b)",
    "\u00e4", "a\u00e4", "\u00c4", "A\u00c4", "\u0430", "\u0410", "\u03b1", "\u00df", "\u00aa", "\uff41", "\uff21",
    "A\u0661", "A\u00b2", "A\u2160", "A\uff11", "A\u0967", "\u0661", "?\u00e4", "?\u0430", "?x\u0661", "\uff1fx",
    "\u017f", "\u212a", "K\u2081", "a\u0301",
]


class Atoms(unittest.TestCase):

    def check(self, text, form):
        letter = Letter(text)
        self.assertEqual(letter.form(), form)
        self.assertEqual(letter.written(), text)
        self.assertEqual(Letter(atom=text), letter)
        self.assertEqual(Letter.of(form), letter)
        self.assertEqual(Letter.read(text), letter)
        self.assertEqual(len(letter), 1)

    def test_words(self):
        for word in [word for word in WORDS if len(word) <= 8]:
            with self.subTest(word):
                self.check(word, ("word", word))

    def test_names(self):
        for name in NAMES:
            with self.subTest(name):
                self.check(name, ("name", name))

    def test_unknowns(self):
        for unknown in UNKNOWNS:
            with self.subTest(unknown):
                self.check("?" + unknown, ("unknown", unknown))

    def test_every_single_sign(self):
        good = set("abcdefghijklmnopqrstuvwxyzABCDEFGHIJKLMNOPQRSTUVWXYZ")
        for sign in map(chr, range(0x500)):
            with self.subTest(sign):
                if sign in good:
                    self.assertEqual(Letter(sign).written(), sign)
                else:
                    with self.assertRaises(BadAtom):
                        Letter(sign)

    def test_every_second_sign(self):
        small = set("abcdefghijklmnopqrstuvwxyz")
        large = set("ABCDEFGHIJKLMNOPQRSTUVWXYZ")
        digits = set("0123456789")
        for head, good in (("a", small), ("A", large | digits), ("?", small), ("0", set())):
            for sign in map(chr, range(0x500)):
                if sign in good:
                    self.assertEqual(Letter(head + sign).written(), head + sign)
                else:
                    with self.assertRaises(BadAtom):
                        Letter(head + sign)

    def test_bad_texts(self):
        for text in BAD:
            with self.subTest(text):
                with self.assertRaises(BadAtom) as held:
                    Letter(text)
                self.assertEqual(held.exception.text, text)

    def test_long_texts(self):
        for sign in "aA?0 ":
            with self.assertRaises(BadAtom):
                Letter(sign * 4000)

    def test_kinds_differ(self):
        self.assertNotEqual(Letter("x"), Letter("?x"))
        self.assertNotEqual(Letter("x"), Letter("X"))
        self.assertNotEqual(Letter("X"), Letter("?x"))


if __name__ == "__main__":
    unittest.main()
