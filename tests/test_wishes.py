"""Wishes and the fillings that grant them (point 23)."""

import random
import unittest

from openroads.errors import BadFilling
from openroads.letters import Letter
from openroads.wishes import granted
from town import filling_of
from wishing import fillings_of, growing, is_granted, unknowns_of, wish

read = Letter.read


class Granted(unittest.TestCase):

    def test_no_wishes(self):
        self.assertIs(granted([], {}), True)
        self.assertIs(granted([], {"x": read("?x")}), True)

    def test_plain_wishes(self):
        self.assertIs(granted([wish([], "a")], {}), True)
        self.assertIs(granted([wish([], "K")], {}), False)
        self.assertIs(granted([wish(["K"], "mark(K)")], {}), True)
        self.assertIs(granted([wish(["mark(K)"], "K")], {}), False)
        self.assertIs(granted([wish(["own(K)"], "own(K)")], {}), True)
        self.assertIs(granted([wish(["K"], "own(K)")], {}), False)

    def test_each_wish_counts(self):
        wishes = growing((["K"], "K"), (["seal(M, K)"], "M"), ([], "a"))
        self.assertIs(granted(wishes, {}), True)
        for at in range(3):
            others = list(wishes)
            others.insert(at, wish(["K"], "N"))
            self.assertIs(granted(others, {}), False)

    def test_filled_everywhere(self):
        # In the wished letter, in a key, and in a later list.
        wishes = growing((["K"], "mark(?x)"), (["seal(M, ?x)"], "M"), (["?x", "lock(N, own(?x))"], "N"))
        self.assertIs(granted(wishes, filling_of(x="K")), True)
        self.assertIs(granted(wishes, filling_of(x="a")), True)
        self.assertIs(granted(wishes, filling_of(x="pair(K, a)")), True)
        self.assertIs(granted(wishes, filling_of(x="M")), False)
        self.assertIs(granted(wishes[1:], filling_of(x="K")), True)
        self.assertIs(granted(wishes[1:], filling_of(x="M")), False)
        self.assertIs(granted(wishes[2:], filling_of(x="M")), True)

    def test_all_at_once(self):
        wishes = [wish(["K"], "pair(?x, ?y)")]
        self.assertIs(granted(wishes, filling_of(x="K", y="b")), True)
        self.assertIs(granted(wishes, filling_of(x="K", y="M")), False)

    def test_lists_that_are_not_orderly(self):
        self.assertIs(granted([wish(["?x"], "?x"), wish([], "?x")], filling_of(x="a")), True)
        self.assertIs(granted([wish(["?x"], "?x"), wish([], "?x")], filling_of(x="K")), False)
        self.assertIs(granted([wish(["?x"], "?x"), wish(["?x", "?y"], "?y")], filling_of(x="K", y="M")), True)
        self.assertIs(granted([wish(["K"], "K"), wish(["M"], "K")], {}), False)

    def test_by_names_and_new(self):
        wishes, filling = [wish(["K"], "?x")], filling_of(x="K")
        self.assertIs(granted(wishes=wishes, filling=filling), True)
        self.assertEqual((wishes, filling), ([wish(["K"], "?x")], filling_of(x="K")))

    def test_drawn(self):
        chance = random.Random(23)
        for turn in range(60):
            wishes = [wish(["mark(K)", "seal(M, ?x)"], chance.choice(["?x", "seal(?x, ?y)", "mark(?x)", "pair(?y, ?x)"])),
                      wish(["?x"], chance.choice(["?y", "M", "?x"])), wish(["lock(?y, open(?x))", "own(K)"], "?y")]
            fillings = list(fillings_of(wishes))
            for filling in chance.sample(fillings, min(8, len(fillings))):
                self.assertIs(granted(wishes, filling), is_granted(wishes, filling))


class Refused(unittest.TestCase):

    def check_bad(self, wishes, filling):
        with self.assertRaises(BadFilling) as held:
            granted(wishes, filling)
        self.assertEqual(vars(held.exception), {})

    def test_an_unknown_that_is_not_filled(self):
        wishes = growing((["K"], "pair(?x, ?y)"), (["seal(M, ?z)", "?x"], "?y"))
        whole = filling_of(x="K", y="a", z="b")
        self.assertEqual(unknowns_of(wishes), sorted(whole))
        self.assertIs(granted(wishes, whole), True)
        for unknown in whole:
            self.check_bad(wishes, {name: whole[name] for name in whole if name != unknown})
            self.check_bad(wishes, {**whole, unknown: read("?x")})
            self.check_bad(wishes, {**whole, unknown: read("seal(K, mark(?w))")})
        self.check_bad(wishes, {})
        self.check_bad([wish([], "?x")], filling_of(y="a"))

    def test_also_where_a_wish_is_not_granted(self):
        self.check_bad([wish([], "K"), wish([], "?x")], {})
        self.check_bad([wish(["?x"], "?y"), wish([], "K")], filling_of(x="a"))

    def test_further_unknowns(self):
        wishes = [wish(["K"], "?x")]
        self.assertIs(granted(wishes, {**filling_of(x="K"), "y": read("?z"), "z": read("a")}), True)
        self.assertIs(granted(wishes, {**filling_of(x="M"), "y": read("?y")}), False)
        self.check_bad(wishes, {"y": read("a")})

    def test_nothing_changes(self):
        wishes, filling = [wish(["K"], "?x")], {"x": read("?x")}
        self.check_bad(wishes, filling)
        self.assertEqual((wishes, filling), ([wish(["K"], "?x")], {"x": read("?x")}))


if __name__ == "__main__":
    unittest.main()
