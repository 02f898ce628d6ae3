"""Roles: what is wrong with their fields, and which rows are fit (points 16, 17)."""

import random
import unittest

import oracle
from openroads.errors import BadRole, NotFit
from openroads.letters import Letter
from openroads.roles import Role

read = Letter.read


def row(text):
    """A row told by words with spaces between them, as in `send LETTER`."""
    head, rest = text.split(" ", 1)
    if head == "claim":
        word, rest = rest.split(" ", 1)
        return ("claim", word, read(rest))
    return (head, read(rest))


def role(title="ann", params=(), knows=(), fresh=(), rows=()):
    return Role(title, list(params), [read(text) for text in knows], list(fresh), [row(text) for text in rows])


class Fields(unittest.TestCase):

    def check_bad(self, field, **told):
        with self.assertRaises(BadRole) as held:
            role(**told)
        self.assertEqual(held.exception.field, field, told)

    def test_title(self):
        for title in ("", "Ann", "abcdefghi", "ann1", "an n", "?x", "ANN", "ann ", "\u00e4"):
            self.check_bad("title", title=title)
        for title in ("a", "abcdefgh", "word", "role", "pair"):
            self.assertEqual(role(title=title).title, title)

    def test_params(self):
        for params in ([""], ["?x"], ["X"], ["abcdefgh"], ["x1"], ["me", "you", "M"], ["x", "x"], ["x", "y", "x"],
                       ["x "], ["x", ""]):
            self.check_bad("params", params=params)
        for params in ([], ["x"], ["abcdefg"], ["x", "y", "xy"], ["word"]):
            self.assertEqual(role(params=params).params, params)

    def test_knows(self):
        for knows in (["?x"], ["a", "own(?me)", "pair(?me, ?x)"], ["mark(?mee)"], ["K1"], ["pair(a, seal(b, K0))"],
                      ["a", "own(KEY12)"]):
            self.check_bad("knows", params=["me"], knows=knows)
        self.check_bad("knows", knows=["own(?me)"])
        for knows in ([], ["a"], ["own(?me)", "?me", "K", "K"], ["pair(a, seal(b, ABCDEFGH))"]):
            self.assertEqual(role(params=["me"], knows=knows).knows, [read(text) for text in knows])

    def test_fresh(self):
        for fresh in ([""], ["a"], ["n"], ["?n"], ["1N"], ["N M"], ["N1"], ["N0"], ["ABCDEFG1"], ["ABCDEFGH"],
                      ["ABCDEFGHI"], ["N", "N"], ["N", "M", "N"], ["N", "K1"], ["\u00c4"]):
            self.check_bad("fresh", fresh=fresh)
        for fresh in ([], ["N"], ["ABCDEFG"], ["N", "M", "NM"]):
            self.assertEqual(role(fresh=fresh).fresh, fresh)

    def test_fresh_that_stands_in_knows(self):
        for knows in (["N"], ["a", "mark(pair(a, N))"], ["own(N)"], ["seal(a, N)"], ["lock(a, open(N))"]):
            self.check_bad("fresh", fresh=["N"], knows=knows)
            self.check_bad("fresh", fresh=["M", "N"], knows=knows)
        self.assertEqual(role(fresh=["N"], knows=["NN", "n", "M"]).fresh, ["N"])

    def test_rows(self):
        for rows in (["send K1"], ["send a", "send pair(a, K0)"], ["await K1"], ["await mark(seal(?x, K10))"],
                     ["claim done K1"], ["send a", "send b", "claim done pair(a, own(K9))"]):
            self.check_bad("rows", rows=rows, knows=["K"])
        for word in ("", "Done", "abcdefghi", "done1", "?x", "K"):
            with self.assertRaises(BadRole) as held:
                Role("ann", [], [], [], [("send", read("a")), ("claim", word, read("a"))])
            self.assertEqual(held.exception.field, "rows")
        self.assertEqual(len(role(rows=["claim done a", "claim abcdefgh a", "send a", "await a"]).rows), 4)

    def test_the_first_field(self):
        bad = {"title": "A", "params": ["X"], "knows": ["?x"], "fresh": ["n"], "rows": ["send K1"]}
        fields = list(bad)
        for at, field in enumerate(fields):
            self.check_bad(field, **{name: bad[name] for name in fields[at:]})
            for other in fields[at + 1:]:
                self.check_bad(field, **{field: bad[field], other: bad[other]})

    def test_not_fit_stands_behind_all_fields(self):
        for field, told in (("title", {"title": ""}), ("params", {"params": ["x", "x"]}), ("knows", {"knows": ["K1"]}),
                            ("fresh", {"fresh": ["N", "N"]})):
            self.check_bad(field, rows=["send K", "send M"], **told)
        self.check_bad("rows", rows=["send K", "send K1"])
        self.check_bad("rows", rows=["send K", "claim done K1"])

    def test_attributes(self):
        params, knows, fresh = ["me", "x"], [read("own(?me)"), read("K")], ["N"]
        rows = [("send", read("pair(K, N)")), ("await", read("?y")), ("claim", "done", read("?y"))]
        for made in (Role("ann", params, knows, fresh, rows),
                     Role(title="ann", params=params, knows=knows, fresh=fresh, rows=rows)):
            for turn in range(2):
                self.assertEqual((made.title, made.params, made.knows, made.fresh, made.rows),
                                 ("ann", ["me", "x"], [read("own(?me)"), read("K")], ["N"], rows))
                for name in ("params", "knows", "fresh", "rows"):
                    self.assertIs(type(getattr(made, name)), list)
                    self.assertIsNot(getattr(made, name), getattr(made, name))
                    getattr(made, name).clear()
                self.assertEqual(made.rows, rows)
            self.assertEqual((len(params), len(knows), len(fresh), len(rows)), (2, 2, 1, 3))

    def test_later_changes_of_what_was_passed(self):
        lists = (["me"], [read("own(?me)")], ["N"], [("send", read("N"))])
        made = Role("ann", *lists)
        for changed in lists:
            changed.append(changed[0])
        self.assertEqual((made.params, made.knows, made.fresh, made.rows),
                         (["me"], [read("own(?me)")], ["N"], [("send", read("N"))]))


class Fit(unittest.TestCase):

    def check(self, index, rows, params=(), knows=(), fresh=()):
        """The first row that is not fit, or None."""
        if index is None:
            self.assertEqual(len(role("ann", params, knows, fresh, rows).rows), len(rows))
        else:
            with self.assertRaises(NotFit) as held:
                role("ann", params, knows, fresh, rows)
            self.assertEqual(held.exception.index, index, rows)

    def test_no_rows(self):
        self.check(None, [])

    def test_what_is_held_at_first(self):
        for text in ("?me", "own(?me)", "N", "K", "a", "pair(?me, N)", "seal(K, N)", "mark(K)", "open(?me)",
                     "lock(K, own(?me))"):
            for kind in ("send", "claim done"):
                self.check(None, [kind + " " + text], ["me"], ["own(?me)", "K"], ["N"])
        for text in ("M", "own(N)", "own(K)", "pair(?me, M)", "seal(K, M)", "mark(M)", "own(own(?me))", "own(a)"):
            for kind in ("send", "claim done"):
                self.check(0, [kind + " " + text], ["me"], ["own(?me)", "K"], ["N"])

    def test_knows_is_taken_apart(self):
        self.check(None, ["send K"], ["me"], ["seal(K, ?me)"])
        self.check(0, ["send K"], ["me"], ["seal(K, M)"])

    def test_the_first_row(self):
        self.check(0, ["send K", "send a", "send M"])
        self.check(1, ["send a", "claim done K", "send M"])
        self.check(2, ["send a", "await ?x", "send K"])
        self.check(1, ["await a", "await M", "send M"])

    def test_new_unknowns_in_sends_and_claims(self):
        self.check(0, ["send ?x"])
        self.check(0, ["claim done ?x"])
        self.check(0, ["send pair(a, mark(?x))"], ["y"])
        self.check(0, ["send ?x", "await ?x"])
        self.check(1, ["await ?x", "claim done ?y"])
        self.check(None, ["await ?x", "claim done ?x", "send mark(?x)"])

    def test_open_awaits(self):
        for text in ("?x", "pair(?x, ?y)", "pair(?x, pair(a, ?y))", "a", "pair(a, b)", "mark(a)", "open(a)", "K", "?me",
                     "mark(pair(?me, K))", "pair(?x, mark(?x))", "seal(?x, K)", "seal(?x, pair(K, a))",
                     "seal(seal(?x, K), a)", "lock(?x, own(a))", "lock(pair(?x, ?y), own(?me))", "pair(?x, ?x)"):
            self.check(None, ["await " + text], ["me"], ["K"])

    def test_awaits_that_cannot_be_looked_into(self):
        for text in ("M", "pair(?x, M)", "mark(M)", "own(K)", "seal(?x, M)", "seal(a, M)", "lock(?x, own(M))",
                     "lock(?x, open(K))", "lock(a, open(M))", "open(M)", "pair(a, seal(?x, mark(M)))", "own(a)"):
            self.check(0, ["await " + text], ["me"], ["K"])

    def test_unknowns_where_nobody_can_look(self):
        for text in ("mark(?x)", "open(?x)", "own(?x)", "seal(a, ?x)", "seal(?x, ?x)", "lock(a, open(?x))",
                     "lock(?x, own(?x))", "seal(?x, M)", "pair(a, mark(?x))"):
            self.check(0, ["await " + text], ["me"], ["K"])
        # Once it is known, it can be put together and compared.
        for text in ("mark(?x)", "open(?x)", "seal(a, ?x)", "lock(a, open(?x))", "pair(mark(?x), ?x)"):
            self.check(None, ["await ?x", "await " + text], ["me"], ["K"])
        self.check(1, ["await ?x", "await own(?x)"], ["me"], ["K"])

    def test_a_lock_by_an_own_key(self):
        # Somebody else locked it, and the open key undoes it.
        self.check(None, ["await lock(pair(?x, ?me), own(?you))", "send ?x"], ["me", "you"])
        self.check(None, ["await lock(?x, own(K))", "send ?x"], knows=["open(K)"])
        self.check(None, ["await lock(?x, own(K))"], knows=["K"])
        self.check(0, ["await lock(?x, own(K))"], knows=["own(K)"])
        self.check(1, ["await lock(?x, own(?you))", "send lock(?x, own(?you))"], ["you"])
        self.check(None, ["await lock(?x, open(K))"], knows=["own(K)"])
        self.check(0, ["await lock(?x, open(K))"], knows=["open(K)", "K"])

    def test_a_seal_whose_key_comes_in_the_same_letter(self):
        self.check(None, ["await pair(seal(?x, ?k), ?k)", "send pair(?x, ?k)"])
        self.check(None, ["await pair(?k, seal(?x, ?k))", "send pair(?x, ?k)"])
        self.check(None, ["await pair(seal(?x, mark(?k)), seal(?k, K))", "send ?x"], knows=["K"])
        self.check(0, ["await pair(seal(?x, mark(?k)), seal(?k, K))"])
        # The key is an opened part, but not held, as it is no unknown: the rest cannot be compared.
        self.check(0, ["await pair(seal(?x, K), K)"])
        self.check(0, ["await pair(own(?me), lock(?x, open(?me)))"], ["me"])
        self.check(0, ["await pair(mark(K), seal(?x, mark(K)))"])

    def test_unknowns_of_an_earlier_await(self):
        self.check(None, ["await ?x", "await pair(?x, ?y)", "send pair(?x, ?y)"])
        self.check(None, ["await ?k", "await seal(?x, ?k)", "claim done ?x"])
        self.check(0, ["await seal(?x, ?k)", "await ?k"])
        self.check(None, ["await ?x", "await mark(?x)"])
        self.check(None, ["await pair(?a, ?b)", "await mark(pair(?b, ?a))"])
        self.check(1, ["await ?a", "await mark(pair(?b, ?a))"])

    def test_the_awaited_letter_itself_is_not_held(self):
        self.check(2, ["await ?x", "await lock(?x, own(?you))", "send lock(?x, own(?you))"], ["you"])
        self.check(None, ["await seal(?x, K)", "send seal(?x, K)"], knows=["K"])
        self.check(None, ["await pair(?x, ?y)", "send pair(?y, ?x)"])

    def test_a_send_of_what_cannot_be_made(self):
        self.check(0, ["send own(?me)"], ["me"])
        self.check(0, ["send lock(a, own(?me))"], ["me"])
        self.check(None, ["send lock(a, own(?me))"], ["me"], ["own(?me)"])
        self.check(1, ["await ?x", "send own(?x)"])
        self.check(1, ["await ?x", "claim done seal(?x, K)"])
        self.check(None, ["await ?x", "claim done seal(?x, N)"], fresh=["N"])

    def test_unknowns_count_like_names(self):
        self.check(None, ["await seal(?x, ?me)"], ["me"])
        self.check(0, ["await seal(?x, own(?me))"], ["me"])
        self.check(None, ["await seal(?x, own(?me))"], ["me"], ["own(?me)"])

    def test_twelve_rows(self):
        rows = ["await seal(?a, K)"]
        for at in range(1, 11):
            rows.append("await seal(?" + chr(97 + at) + ", pair(?" + chr(96 + at) + ", K))")
        rows.append("send pair(?a, ?k)")
        self.check(None, rows, knows=["K"])
        self.check(0, rows, knows=["mark(K)"])
        self.check(1, rows[:1] + rows[2:], knows=["K"])
        self.check(11, rows[:11] + ["send ?l"], knows=["K"])

    def test_against_the_oracle(self):
        chance = random.Random(11)
        atoms = [("unknown", "x"), ("unknown", "y"), ("unknown", "me"), ("name", "K"), ("name", "N"), ("word", "a")]

        def letter(depth):
            kind = chance.choice(["atom"] if depth == 0 else ["atom", "pair", "pair", "seal", "seal", "lock", "mark", "open"])
            if kind == "atom":
                return chance.choice(atoms)
            if kind == "lock":
                return (kind, letter(depth - 1), (chance.choice(["open", "own"]), chance.choice(atoms)))
            return (kind, *[letter(depth - 1) for turn in range(1 if kind in ("mark", "open") else 2)])

        indexes = []
        for turn in range(1500):
            knows = chance.sample([("own", ("unknown", "me")), ("name", "K"), ("open", ("name", "M")),
                                   ("seal", ("name", "M"), ("name", "K"))], 2)
            rows = [(chance.choice(["await", "await", "send"]), letter(2)) for at in range(3)]
            expected = unfit([("unknown", "me"), ("name", "N")] + knows, rows)
            made = (["me"], [Letter.of(form) for form in knows], ["N"], [(kind, Letter.of(form)) for kind, form in rows])
            try:
                Role("ann", *made)
                found = None
            except NotFit as error:
                found = error.index
            self.assertEqual(found, expected, (knows, rows))
            indexes.append(found)
        for index in (0, 1, 2, None):
            self.assertGreater(indexes.count(index), 50)


def unfit(held, rows):
    """The index of the first row that is not fit, by the words of point 17."""
    for index, (kind, form) in enumerate(rows):
        unknowns = [part for part in oracle.parts_of(form) if part[0] == "unknown" and part not in held]
        if kind == "send":
            if unknowns or form not in oracle.made_of(held, [form]):
                return index
            continue
        if not set(unknowns) <= oracle.opened(held + [form]):
            return index
        held = held + unknowns
        if not seen_through(form, oracle.made_of(held, [form])):
            return index
    return None


def seen_through(form, can):
    if form in can:
        return True
    if form[0] == "pair":
        return seen_through(form[1], can) and seen_through(form[2], can)
    if form[0] == "seal":
        return form[2] in can and seen_through(form[1], can)
    if form[0] == "lock":
        return oracle.partner(form[2]) in can and seen_through(form[1], can)
    return False


if __name__ == "__main__":
    unittest.main()
