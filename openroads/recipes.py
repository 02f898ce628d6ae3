"""Recipes, and how they are worked."""

from openroads.atoms import is_word
from openroads.forms import KEYS, partner
from openroads.tables import Stock

# How many recipes stand in a recipe of each kind that has some.
INNER = {
    "first": 1,
    "second": 1,
    "unseal": 2,
    "unlock": 2,
    "pair": 2,
    "seal": 2,
    "lock": 2,
    "mark": 1,
    "open": 1,
}


def stands_alone(part):
    """Whether any object is a recipe as far as can be told without looking into the recipes in it."""
    if not isinstance(part, tuple) or len(part) == 0 or not isinstance(part[0], str):
        return False
    if part[0] in INNER:
        return len(part) == 1 + INNER[part[0]]
    if len(part) != 2:
        return False
    if part[0] == "at":
        return isinstance(part[1], int) and not isinstance(part[1], bool)
    return part[0] == "word" and isinstance(part[1], str) and is_word(part[1])


def in_order(thing):
    """All recipes in a recipe in the order in which they are worked, itself as the last one; None if it is none."""
    found = []
    left = [thing]
    while left:
        part = left.pop()
        if not stands_alone(part):
            return None
        found.append(part)
        if part[0] in INNER:
            left.extend(part[1:])
    # Each part stands behind the recipes in it, and these from left to right, when this is read from behind.
    return found[::-1]


class Bench(Stock):
    """Where recipes are worked on some forms."""

    def __init__(self, forms):
        Stock.__init__(self)
        self.places = [self.put(form) for form in forms]

    def taken(self, kind, first):
        """The number of what a recipe makes that has no recipe in it, or None if it does not work."""
        if kind == "word":
            return self.noted((kind, first))
        return self.places[first] if 0 <= first < len(self.places) else None

    def worked(self, kind, inputs):
        """The number of what a step makes of what has some numbers, or None if it does not work."""
        line = self.lines[inputs[0]]
        if kind == "first":
            return line[1] if line[0] == "pair" else None
        if kind == "second":
            return line[2] if line[0] == "pair" else None
        if kind == "unseal":
            return line[1] if line[0] == "seal" and line[2] == inputs[1] else None
        if kind == "unlock":
            return line[1] if line[0] == "lock" and self.are_partners(line[2], inputs[1]) else None
        if kind == "lock" and self.lines[inputs[1]][0] not in KEYS:
            return None
        return self.noted((kind, *inputs))

    def are_partners(self, key, number):
        """Whether what has a number is the partner of a key."""
        return partner(self.lines[key]) == self.lines[number]
