"""Letters as texts, and texts as letters."""

import unittest

from openroads.errors import BadText
from openroads.letters import Letter

TEXTS = {
    "a": ("word", "a"),
    "abcdefgh": ("word", "abcdefgh"),
    "K12": ("name", "K12"),
    "?x": ("unknown", "x"),
    "pair(a, B)": ("pair", ("word", "a"), ("name", "B")),
    "seal(a, ?k)": ("seal", ("word", "a"), ("unknown", "k")),
    "lock(a, open(K))": ("lock", ("word", "a"), ("open", ("name", "K"))),
    "lock(a, own(?k))": ("lock", ("word", "a"), ("own", ("unknown", "k"))),
    "mark(a)": ("mark", ("word", "a")),
    "open(a)": ("open", ("word", "a")),
    "own(a)": ("own", ("word", "a")),
    "pair(pair(a, b), mark(own(K)))":
        ("pair", ("pair", ("word", "a"), ("word", "b")), ("mark", ("own", ("name", "K")))),
    "pair(pair, lock)": ("pair", ("word", "pair"), ("word", "lock")),
    "open(open(open))": ("open", ("open", ("word", "open"))),
    "lock(lock, own(own))": ("lock", ("word", "lock"), ("own", ("word", "own"))),
}

BAD = [
    "", " ", "\n", "(", ")", ",", ", ", "()", "(a)", "(a, b)", "?", "A1B", "1", "abcdefghi", "aB", "?X", "??x",
    "pair(a,b)", "pair(a,  b)", "pair(a , b)", "pair( a, b)", "pair(a, b )", "pair (a, b)", " pair(a, b)",
    "pair(a, b) ", "pair(a, b)\n", "pair(a,\nb)", "pair(a, \nb)", "pair(a,\tb)", "pair(a b)", "pair(a; b)", "pair(ab)",
    "pair(a, b", "pair(a, ", "pair(a,", "pair(a", "pair(", "pair a, b)", "paira, b)", "pair)a, b(", "pair()",
    "pair(, )", "pair(a, )", "pair(, b)", "pair(a, , b)", "pair(a, b, )", "pair(, a, b)", "pair(a, b,)", "pair(a,, b)",
    "pair(a)", "pair(a, b, c)", "mark(a, b)", "mark()", "open(a, b)", "own()", "seal(a)", "seal(a, b, c)",
    "pair(a, b))", "(pair(a, b))", "pair((a), b)", "pair(a, (b))", "pair(a, b)c", "pair(a, b), c", "pair(a, b), ",
    "pair(a, b)pair(a, b)", "pair(a, b) pair(a, b)", "a, b", "a b", "a)", "a(", "a()", "mark(a)b", "mark(a))", "mark((a)",
    "mark(mark(a)", "mark(mark(a)))", "mark(mark(a)b)", "mark(a mark(b))", "mark(amark(b))",
    "pair(A1B, c)", "pair(a, abcdefghi)", "pair(a, ?)", "pair(a, ?abcdefgh)", "pair(a, ?X)", "pair(a, 1)", "pair(aB, c)",
    "Pair(a, b)", "PAIR(a, b)", "pairs(a, b)", "word(a)", "name(A)", "unknown(x)", "?mark(a)", "K(a)", "?x(a)", "foo(a)",
    "lock(a, b)", "lock(a, K)", "lock(a, ?k)", "lock(a, mark(b))", "lock(a, pair(open(a), own(b)))", "lock(a, lock)",
    "lock(a, open)", "lock(a, lock(a, open(K)))", "lock(open(a), b)", "mark(lock(a, b))", "pair(lock(a, b), c)",
    "lock(a)", "lock(a, open(b), c)", "lock(a, open(b), open(c))",
    "mark(\u00e4)", "mark(\u0430)", "mark(A\u0661)", "pair(a\uff0c b)", "pair(a,\u00a0b)", "('word', 'a')", "~a", "a + b",
]


class Texts(unittest.TestCase):

    def test_written_and_read_back(self):
        for text, form in TEXTS.items():
            with self.subTest(text):
                self.assertEqual(Letter.of(form).written(), text)
                self.assertEqual(Letter.read(text).form(), form)
                self.assertEqual(Letter.read(text=text), Letter.of(form))

    def test_the_six_words_are_words_too(self):
        for word in ("pair", "seal", "lock", "mark", "open", "own"):
            self.assertEqual(Letter.read(word), Letter(word))
            self.assertEqual(Letter.read("?" + word), Letter("?" + word))
            self.assertEqual(Letter.read("mark(" + word + ")"), ~Letter(word))
            self.assertEqual(Letter.read(f"pair({word}, {word})"), Letter(word) + Letter(word))
            self.assertEqual(Letter.read(f"seal({word}, mark({word}))"), Letter(word) * ~Letter(word))
            self.assertEqual(Letter.read(f"lock({word}, own({word}))"), Letter(word) ^ -Letter(word))

    def test_bad_texts(self):
        for text in BAD:
            with self.subTest(text):
                with self.assertRaises(BadText) as held:
                    Letter.read(text)
                self.assertEqual(held.exception.line, 1)

    def test_one_sign_more_or_less(self):
        text = "pair(lock(a, open(?x)), seal(K1, mark(own(pair))))"
        self.assertEqual(Letter.read(text).written(), text)
        changed = [text[:at] + text[at + 1:] for at in range(len(text))]
        changed += [text[:at] + sign + text[at:] for at in range(len(text) + 1) for sign in " ,()\n?a1"]
        for other in changed:
            try:
                letter = Letter.read(other)
            except BadText as error:
                self.assertEqual(error.line, 1)
            else:
                self.assertEqual(letter.written(), other)

    def test_brackets_and_spaces_are_all_needed(self):
        text = "pair(lock(a, open(?x)), seal(K1, mark(own(pair))))"
        for at, sign in enumerate(text):
            if sign in "(), ":
                with self.subTest(at):
                    with self.assertRaises(BadText):
                        Letter.read(text[:at] + text[at + 1:])
                    with self.assertRaises(BadText):
                        Letter.read(text[:at] + sign + text[at:])

    def test_long_refused_texts(self):
        for text in ("(" * 4000, ")" * 4000, ", " * 2000, "a" * 4000, "mark(" * 40 + "a" + ")" * 39, "\n" * 4000,
                     "pair(" + "a, " * 1300 + "a)", "mark(" * 40 + "lock(a, b)" + ")" * 40, "mark(a)" * 500):
            with self.assertRaises(BadText) as held:
                Letter.read(text)
            self.assertEqual(held.exception.line, 1)


if __name__ == "__main__":
    unittest.main()
