"""The desk and its commands (points 20, 21, 26 and 29)."""

import unittest

from openroads.desk import Desk
from openroads.errors import BadSitting
from openroads.letters import Letter
from openroads.roles import Book, Role
from openroads.worlds import World
from town import BOOK, filling_of, row

read = Letter.read

WITH_BOB = [("ann", filling_of(me="A", you="B")), ("bob", filling_of(me="B"))]
WITH_CARL = [("ann", filling_of(me="A", you="C")), ("bob", filling_of(me="B"))]
ALONE = ("undo", "heap", "parts", "claims")

# What is asked for is told step by step; only the last letter is a secret.
STEPS = Role("steps", [], [read(text) for text in "ABCD"], ["N"], [
    row("await", "A"), row("send", "B"), row("await", "pair(B, ?x)"), row("send", "C"), row("claim", "?x", "told"),
    row("await", "seal(?y, C)"), row("send", "N"), row("send", "mark(D)")])
IN_STEPS = (Book([STEPS], [read("A")]), [("steps", {})])


class Telling(unittest.TestCase):

    def setUp(self):
        self.desk = Desk(BOOK, WITH_BOB)

    def check(self, line, *answer):
        told = self.desk.tell(line)
        self.assertEqual(told, list(answer), line)
        self.assertIs(type(told), list)

    def told_of_all(self):
        """All that a desk with two sittings tells without a change."""
        return [self.desk.tell(line) for line in ("heap", "parts", "claims", "wants 0", "wants 1")]


class Told(Telling):

    def test_a_run(self):
        self.check("heap", "A", "B", "C", "own(C)", "lock(pair(N0, A), open(B))")
        self.check("claims", "0 begun pair(N0, B)")
        self.check("wants 0", "lock(pair(N0, ?x), open(A))")
        self.check("wants 1", "lock(pair(?x, ?you), open(B))")
        self.check("give 1 lock(pair(N0, A), open(B))", "sent lock(pair(N0, N1), open(A))", "waits")
        self.check("wants 1", "lock(N1, open(B))")
        self.check("claims", "0 begun pair(N0, B)", "1 begun A")
        self.check("give 0 lock(pair(N0, N1), open(A))", "sent lock(N1, open(B))", "ended")
        self.check("wants 0", "ended")
        self.check("give 1 lock(N1, open(B))", "sent seal(b, N1)", "ended")
        self.check("heap", "A", "B", "C", "own(C)", "lock(pair(N0, A), open(B))", "lock(pair(N0, N1), open(A))",
                   "lock(N1, open(B))", "seal(b, N1)")
        self.check("claims", "0 begun pair(N0, B)", "1 begun A", "0 done pair(N0, N1)", "1 done pair(N0, N1)")

    def test_parts(self):
        self.check("parts", *[letter.written() for letter in World(BOOK, WITH_BOB).heap().parts()])
        self.desk = Desk(BOOK, WITH_CARL)
        self.check("parts", "lock(pair(N0, A), open(C))", "A", "B", "C", "N0", "own(C)", "pair(N0, A)")
        self.desk = Desk(Book([], []), [])
        self.check("parts")
        self.check("heap")
        self.check("claims")

    def test_holds(self):
        for text in ("A", "a", "own(C)", "pair(A, mark(B))", "lock(pair(N0, A), open(B))"):
            self.check("holds " + text, "yes")
        for text in ("N0", "N1", "own(A)", "D", "pair(A, N0)"):
            self.check("holds " + text, "no")

    def test_several_letters_sent_at_once(self):
        talks = Role("talks", [], [read("K")], ["N"], [
            row("send", "K"), row("await", "?x"), row("send", "mark(?x)"), row("claim", "?x", "one"), row("send", "?x"),
            row("send", "pair(N, K)"), row("await", "pair(?x, ?y)"), row("claim", "?y", "two"), row("await", "a")])
        self.desk = Desk(Book([talks], []), [("talks", {}), ("talks", {})])
        self.check("give 0 pair(K, b)", "sent mark(pair(K, b))", "sent pair(K, b)", "sent pair(N0, K)", "waits")
        self.check("wants 0", "pair(pair(K, b), ?y)")
        self.check("give 1 a", "sent mark(a)", "sent a", "sent pair(N1, K)", "waits")
        self.check("give 1 pair(a, N0)", "waits")
        self.check("give 1 a", "ended")
        self.check("claims", "0 one pair(K, b)", "1 one a", "1 two N0")
        self.check("wants 1", "ended")
        self.check("give 1 a", "refused NotWaiting")

    def test_undo(self):
        before = self.told_of_all()
        self.check("undo", "nothing")
        self.check("give 1 lock(pair(N0, A), open(B))", "sent lock(pair(N0, N1), open(A))", "waits")
        between = self.told_of_all()
        self.check("give 0 lock(pair(N0, N1), open(A))", "sent lock(N1, open(B))", "ended")
        self.check("undo", "undone")
        self.assertEqual(self.told_of_all(), between)
        self.check("give 0 a", "refused NoMatch")
        self.check("undo", "undone")
        self.assertEqual(self.told_of_all(), before)
        self.check("undo", "nothing")
        self.check("undo", "nothing")
        self.assertEqual(self.told_of_all(), before)
        # What is given again is taken back again.
        self.check("give 1 lock(pair(N0, A), open(B))", "sent lock(pair(N0, N1), open(A))", "waits")
        self.check("undo", "undone")
        self.check("undo", "nothing")

    def test_seek(self):
        self.check("seek A", "gives 0")
        self.check("seek word", "gives 0")
        self.check("seek N1", "gives 1")
        self.check("seek pair(N1, seal(b, N1))", "gives 1")
        self.check("seek N0", "never")
        self.check("seek own(A)", "never")
        self.desk = Desk(*IN_STEPS)
        for text, many in (("A", 0), ("B", 1), ("pair(B, A)", 1), ("C", 2), ("N0", 3), ("seal(N0, mark(D))", 3)):
            self.check("seek " + text, "gives " + str(many))
        for text in ("D", "own(A)", "N", "N1", "pair(A, D)"):
            self.check("seek " + text, "never")

    def test_seek_asks_a_new_world(self):
        self.desk = Desk(*IN_STEPS)
        self.check("seek C", "gives 2")
        self.check("heap", "A")
        self.check("undo", "nothing")
        self.check("give 0 A", "sent B", "waits")
        self.check("seek C", "gives 2")
        self.check("seek B", "gives 1")
        self.check("give 0 pair(B, A)", "sent C", "waits")
        self.check("holds C", "yes")
        self.check("seek C", "gives 2")
        self.check("seek N0", "gives 3")
        self.check("claims", "0 told A")
        self.check("undo", "undone")
        self.check("seek C", "gives 2")
        self.check("heap", "A", "B")
        self.check("wants 0", "pair(B, ?x)")
        self.check("undo", "undone")
        self.check("seek C", "gives 2")
        self.check("undo", "nothing")


class Refused(Telling):

    def check_refused(self, name, *lines):
        for line in lines:
            with self.subTest(line=line):
                before = self.told_of_all()
                self.check(line, "refused " + name)
                self.assertEqual(self.told_of_all(), before)

    def test_each_error(self):
        self.check_refused("NoSitting", "give 2 a", "give 10 A", "wants 2", "wants 99", "give 2 ?x", "give 3 N1",
                           "wants 123456789012345678901234567890", "wants " + "9" * 3990, "give " + "1" * 3980 + " a")
        self.check_refused("NotPlain", "give 0 ?x", "give 1 lock(pair(?x, ?you), open(B))", "holds ?x", "seek ?x",
                           "holds seal(a, mark(?x))", "seek pair(A, ?x)")
        self.check_refused("NotHeld", "give 0 N1", "give 1 own(B)", "give 0 lock(pair(N0, A), open(A))", "give 0 N0")
        self.check_refused("NoMatch", "give 0 a", "give 1 A", "give 1 lock(A, open(B))", "give 0 lock(pair(N0, A), open(B))")
        self.desk.tell("give 1 lock(pair(b, A), open(B))")
        self.check_refused("NoMatch", "give 1 lock(b, open(B))")
        self.desk = Desk(BOOK, WITH_CARL)
        self.desk.tell("give 0 lock(pair(N0, a), open(A))")
        self.assertEqual(self.desk.tell("wants 0"), ["ended"])
        self.check_refused("NotWaiting", "give 0 a", "give 0 N9", "give 0 lock(pair(N0, a), open(A))")
        self.check_refused("NotPlain", "give 0 ?x")

    def test_no_commands(self):
        self.check_refused(
            "BadCommand", "", " ", "  ", "Heap", "heaps", "hea", "undo undo", "give", "give ", "give 0", "give 0 ", "give a",
            "give  0 a", "give 0  a", "give 0 a ", " give 0 a", "give 0 a b", "give 0, a", "give 00 a", "give 01 a",
            "give +0 a", "give -0 a", "give -1 a", "give 0x0 a", "give 0.0 a", "give one a", "give ?x a", "give a 0",
            "give 1_0 a", "give \u0661 a", "give \u00b2 a", "give 0\ta", "give\t0 a", "wants", "wants ", "wants  0", "wants 0 ",
            " wants 0", "wants 00", "wants 01", "wants +1", "wants -1", "wants 0 0", "wants a", "wants 0 a", "wants 1.",
            "wants \u0661", "holds", "holds ", "holds  a", "holds a ", " holds a", "holds a b", "holds pair(a,b)",
            "holds lock(a, b)", "holds 0", "holds 0 a", "holds A b", "holds mark(a", "seek", "seek ", "seek  a", "seek a ",
            "seek a b", "seek lone done begun", "seek 1", "seek mark()", "seek ?", "seek ?X", "give 0 ?X", "give 0 0",
            "give 0 pair(a, b", "give 0 pair(a,  b)", "give 0 lock(a, b)", "take 0 a", "sent a", "refused BadCommand",
            "heap\n", "undo\n", "holds a\n", "wants 0\n", "give 0 a\n", "\n", "heap\nheap", "perform", "gives", "twin")
        for line in ALONE:
            self.check_refused("BadCommand", line + " ", " " + line, line + " 0", line + " A", line + "s", line.upper(),
                               line + "\t", line + " " + line, line + "  ")

    def test_no_command_comes_first(self):
        self.check_refused("BadCommand", "give 7 lock(a, b)", "give 07 a", "give 7", "holds lock(?x, ?y)", "seek mark(?x) ")

    def test_letters_of_few_spaces(self):
        # A letter's text counts as one token.
        self.desk.tell("give 1 lock(pair(pair(a, b), A), open(B))")
        self.check("wants 1", "lock(N1, open(B))")
        self.check("holds pair(pair(A, B), pair(a, mark(b)))", "yes")

    def test_sittings(self):
        for sittings in ([("none", {})], [WITH_BOB[0], ("bob", {})]):
            with self.assertRaises(BadSitting) as held:
                Desk(BOOK, sittings)
            self.assertEqual(held.exception.index, len(sittings) - 1)
            with self.assertRaises(BadSitting):
                Desk(book=BOOK, sittings=sittings)


class Kept(unittest.TestCase):

    def test_later_changes(self):
        roles, known, filling = BOOK.roles, BOOK.known, filling_of(me="A", you="B")
        sittings = [("ann", filling), WITH_BOB[1]]
        desk = Desk(Book(roles, known), sittings)
        filling["me"] = read("C")
        filling["more"] = read("a")
        sittings.clear()
        roles.clear()
        known.append(read("N"))
        self.assertEqual(desk.tell("wants 0"), ["lock(pair(N0, ?x), open(A))"])
        self.assertEqual(desk.tell("seek N1"), ["gives 1"])
        self.assertEqual(desk.tell("wants 1"), ["lock(pair(?x, ?you), open(B))"])
        self.assertEqual(desk.tell("seek N"), ["never"])

    def test_answers_are_new(self):
        desk = Desk(book=BOOK, sittings=WITH_BOB)
        for line in ("heap", "parts", "claims", "wants 0", "holds A", "seek A", "undo", "none"):
            told = desk.tell(line=line)
            kept = list(told)
            told.append("more")
            self.assertEqual(desk.tell(line), kept)

    def test_two_desks(self):
        one, other = Desk(BOOK, WITH_BOB), Desk(BOOK, WITH_BOB)
        one.tell("give 1 lock(pair(N0, A), open(B))")
        self.assertEqual(other.tell("wants 1"), ["lock(pair(?x, ?you), open(B))"])
        self.assertEqual(other.tell("undo"), ["nothing"])
        self.assertEqual(one.tell("undo"), ["undone"])


if __name__ == "__main__":
    unittest.main()
