"""Books written and read (points 16 to 18 and 28)."""

import random
import unittest

from openroads.errors import BadBook, BadRole, BadText, NotFit
from openroads.letters import Letter
from openroads.roles import Book, Role
from openroads.texts import book_read, book_text
from runs import Casting
from town import BOOK, row

read = Letter.read

TEXT = """\
role ann me you
knows own(?me)
knows pair(?you, K)
fresh N
fresh MM
send lock(pair(N, ?me), open(?you))
claim begun pair(N, ?you)
await lock(pair(N, ?x), open(?me))
claim done pair(?me, ?x)
role nobody
role bob
await ?x
heap A
heap lock(seal(A, pair(B, mark(word))), own(C))
"""
LINES = TEXT.splitlines()


def told(book):
    """All that can be read off a book."""
    return ([(role.title, role.params, role.knows, role.fresh, role.rows) for role in book.roles], book.known)


class Written(unittest.TestCase):

    def test_each_kind_of_line(self):
        ann = Role("ann", ["me", "you"], [read("own(?me)"), read("pair(?you, K)")], ["N", "MM"], [
            row("send", "lock(pair(N, ?me), open(?you))"), row("claim", "pair(N, ?you)", "begun"),
            row("await", "lock(pair(N, ?x), open(?me))"), row("claim", "pair(?me, ?x)", "done")])
        book = Book([ann, Role("nobody", [], [], [], []), Role("bob", [], [], [], [row("await", "?x")])],
                    [read("A"), read("lock(seal(A, pair(B, mark(word))), own(C))")])
        self.assertEqual(book_text(book), TEXT)
        self.assertEqual(book_text(book=book), TEXT)

    def test_few_lines(self):
        self.assertEqual(book_text(Book([], [])), "")
        self.assertEqual(book_text(Book([], [read("A"), read("A")])), "heap A\nheap A\n")
        self.assertEqual(book_text(Book([Role("role", [], [], [], [])], [])), "role role\n")
        self.assertEqual(book_text(Book([Role("a", ["role"], [read("?role")], [], [])], [])), "role a role\nknows ?role\n")

    def test_words_that_are_heads(self):
        rows = [row("send", "send"), row("await", "pair"), row("claim", "heap", "claim")]
        book = Book([Role("heap", ["knows"], [], [], rows)], [read("seal")])
        text = "role heap knows\nsend send\nawait pair\nclaim claim heap\nheap seal\n"
        self.assertEqual(book_text(book), text)
        self.assertEqual(told(book_read(text)), told(book))


class Read(unittest.TestCase):

    def test_it_leads_back(self):
        for text in ("", "heap a\n", "role ann\n", TEXT, book_text(BOOK), "role ann x\nrole bob\nfresh A\nawait ?x\n"):
            self.assertEqual(book_text(book_read(text)), text)
            self.assertEqual(book_text(book_read(text=text)), text)
        self.assertEqual(told(book_read(book_text(BOOK))), told(BOOK))
        self.assertEqual(told(book_read("")), ([], []))

    def test_what_is_read(self):
        book = book_read(TEXT)
        self.assertEqual([role.title for role in book.roles], ["ann", "nobody", "bob"])
        ann = book.roles[0]
        self.assertEqual((ann.params, ann.knows, ann.fresh),
                         (["me", "you"], [read("own(?me)"), read("pair(?you, K)")], ["N", "MM"]))
        self.assertEqual(ann.rows[1:3], [("claim", "begun", read("pair(N, ?you)")),
                                         ("await", read("lock(pair(N, ?x), open(?me))"))])
        self.assertEqual(told(book)[0][1], ("nobody", [], [], [], []))
        self.assertEqual(book.known, [read("A"), read("lock(seal(A, pair(B, mark(word))), own(C))")])

    def test_drawn_books(self):
        casting = Casting(random.Random(28))
        for turn in range(40):
            book, sittings, goal = casting.story()
            again = book_read(book_text(book))
            self.assertEqual(told(again), told(book))
            self.assertEqual(book_text(again), book_text(book))


class BadLines(unittest.TestCase):

    def check_bad(self, line, text):
        with self.subTest(text=text):
            with self.assertRaises(BadText) as held:
                book_read(text)
            self.assertEqual(vars(held.exception), {"line": line})

    def test_lines_of_no_form(self):
        for bad in ("", " ", "role", "role ", "role  ann", " role ann", "role ann ", "role ann  x", "role Ann", "role ann X",
                    "role ann ?x", "role ninechars", "role ann eightchr", "role ann1", "role ann x1", "Role ann",
                    "role\tann", "role ann,x", "knows", "knows ", "knows  a", "knows a ", "knows pair(a,b)", "knows a b",
                    "knows ?X", "fresh", "fresh ", "fresh n", "fresh ?n", "fresh A B", "fresh  A", "fresh A ", "fresh 1",
                    "fresh ABCDEFGHI", "fresh mark(A)", "await", "await ", "await  a", "await a ", "await pair(a, b) ",
                    "await pair(a,  b)", "await lock(a, b)", "await mark()", "await a, b", "send", "send ", "send (a)",
                    "send 1", "send a b", "claim", "claim ", "claim a", "claim a ", "claim  a a", "claim a  a",
                    "claim done", "claim A a", "claim done pair(a, b", "claim ninechars a", "claim done a ", "claim a, b",
                    "heap", "heap ", "heap  a", "heap a ", "heap lock(A, B)", "heap ?", "hea a", "heaps a", "title ann",
                    "# role ann", "claimdone a", "waits ?x", "send a\r", "role ann\r", "heap a\x0bheap b", "heap a\x85",
                    "heap \u0430", "role \u0430"):
            self.check_bad(1, bad + "\n")
            self.check_bad(1, bad + "\nheap a\n")
            self.check_bad(2, "role ann\n" + bad + "\n")
            self.check_bad(3, "role ann\nawait ?x\n" + bad + "\nsend ?x\n")
            self.check_bad(len(LINES) + 1, TEXT + bad + "\n" + TEXT)

    def test_ahead_of_the_first_role(self):
        for line in ("knows a", "fresh A", "await a", "send a", "claim a a"):
            self.check_bad(1, line + "\n")
            self.check_bad(1, line + "\nrole ann\n")

    def test_behind_a_heap_line(self):
        for line in ("role ann", "knows a", "fresh A", "await a", "send a", "claim a a"):
            self.check_bad(2, "heap A\n" + line + "\n")
            self.check_bad(3, "role ann\nheap A\n" + line + "\n")
            self.check_bad(5, "role bob\nsend a\nheap A\nheap B\n" + line + "\nheap C\n")

    def test_the_order_in_a_role(self):
        for ahead in ("fresh A", "await a", "send a", "claim a a"):
            self.check_bad(3, "role ann\n" + ahead + "\nknows a\n")
            self.check_bad(4, "role ann\nknows a\n" + ahead + "\nknows a\n")
            if ahead != "fresh A":
                self.check_bad(3, "role ann\n" + ahead + "\nfresh B\n")
                self.check_bad(4, "role ann\nfresh A\n" + ahead + "\nfresh B\n")
            # In another role all begins anew.
            book_read("role ann\n" + ahead + "\nrole bob\nknows a\nfresh B\n")

    def test_rows_in_any_order(self):
        for rows in ("await a\nsend a\nclaim a a\n", "claim a a\nawait a\nsend a\n", "send a\nclaim a a\nawait a\nawait b\n"):
            self.assertEqual(book_text(book_read("role ann\n" + rows)), "role ann\n" + rows)

    def test_the_last_line(self):
        self.check_bad(1, "heap a")
        self.check_bad(1, "role ann")
        self.check_bad(1, "x")
        self.check_bad(2, "role ann\nknows a")
        self.check_bad(len(LINES), TEXT[:-1])
        self.check_bad(1, "\n")
        self.check_bad(2, "heap a\n\n")
        self.check_bad(len(LINES) + 1, TEXT + "\n")
        self.check_bad(len(LINES) + 1, TEXT + " ")

    def test_the_first_of_two(self):
        self.check_bad(2, "role ann\nfresh\nknows\n")
        self.check_bad(1, "knows a\nfresh a")
        self.check_bad(2, "role ann\nsend\nsend a")
        self.check_bad(2, "heap a\nrole ann\nheap b")
        for at in range(len(LINES)):
            self.check_bad(at + 1, "\n".join(LINES[:at] + [LINES[at] + " "] + LINES[at + 1:] + ["x"]))


class BadBooks(unittest.TestCase):

    def check(self, error, value, text):
        with self.subTest(text=text):
            with self.assertRaises(error) as held:
                book_read(text)
            self.assertEqual(list(vars(held.exception).values()), [value])

    def test_roles_that_are_none(self):
        self.check(BadRole, "params", "role ann x x\n")
        self.check(BadRole, "params", "role ann x y x\nknows ?z\n")
        self.check(BadRole, "knows", "role ann x\nknows ?y\n")
        self.check(BadRole, "knows", "role ann x\nknows K1\nfresh N1\n")
        self.check(BadRole, "fresh", "role ann\nfresh N1\n")
        self.check(BadRole, "fresh", "role ann\nfresh N\nfresh N\n")
        self.check(BadRole, "fresh", "role ann\nknows N\nfresh N\n")
        self.check(BadRole, "fresh", "role ann\nfresh EIGHTLET\n")
        self.check(BadRole, "rows", "role ann\nsend N1\n")
        self.check(BadRole, "rows", "role ann\nsend N\nclaim a N0\n")

    def test_rows_that_are_not_fit(self):
        self.check(NotFit, 0, "role ann\nsend N\n")
        self.check(NotFit, 1, "role ann\nawait ?x\nsend seal(?x, ?y)\n")
        self.check(NotFit, 2, "role ann\nfresh N\nsend N\nawait N\nclaim a M\n")
        self.check(NotFit, 0, "role ann\nawait mark(?x)\n")

    def test_books_that_are_none(self):
        self.check(BadBook, "roles", "role ann\nrole ann\n")
        self.check(BadBook, "roles", "role ann\nrole bob\nrole ann x\nheap ?x\n")
        self.check(BadBook, "known", "heap A\nheap ?x\n")
        self.check(BadBook, "known", "role ann\nheap A1\n")

    def test_role_by_role(self):
        self.check(NotFit, 0, "role ann\nsend N\nrole bob x x\n")
        self.check(BadRole, "rows", "role ann\nsend N1\nrole bob x x\n")
        self.check(BadRole, "params", "role ann\nrole bob x x\nrole carl\nsend N\nheap ?x\n")
        self.check(NotFit, 0, "role ann\nrole ann\nsend N\nheap ?x\n")
        self.check(BadBook, "roles", "role ann\nsend a\nrole ann\nheap ?x\n")

    def test_a_bad_line_comes_first(self):
        for text in ("role ann x x\nsend\n", "role ann\nsend N\nfresh N\n", "role ann\nrole ann", "heap ?x\nrole ann\n"):
            with self.assertRaises(BadText):
                book_read(text)

    def test_long_ones(self):
        self.check(BadBook, "roles", "role ann\n" * 440)
        self.check(NotFit, 399, "role ann\n" + "await ?x\n" * 399 + "send K\n")
        self.check(BadRole, "rows", "role ann\nknows K\n" + "send K\n" * 500 + "send K1\n")
        self.check(BadBook, "known", "heap K\n" * 500 + "heap ?x\n")
        with self.assertRaises(BadText) as held:
            book_read("heap K\n" * 570 + "heap")
        self.assertEqual(held.exception.line, 571)
        with self.assertRaises(BadText) as held:
            book_read("role ann\nawait " + "mark(" * 40 + "lock(a, b)" + ")" * 40 + "\n")
        self.assertEqual(held.exception.line, 2)


if __name__ == "__main__":
    unittest.main()
