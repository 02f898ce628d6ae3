"""Forms that must become equal, told by the numbers of a stock.

What is merged is merged once. So the time does not grow with the forms that come out, which can be far larger than
those that went in.
"""

from openroads.atoms import ATOMS


class Merger:
    """The forms of a stock in classes, each class of those that must become equal.

    One member is the root of its class: one that is no unknown if there is one, else the first unknown.
    """

    def __init__(self, stock):
        self.stock = stock
        # The way from each number that is no root towards the root of its class.
        self.above = {}

    def root(self, number):
        """The root of a number's class."""
        at = number
        while at in self.above:
            # Shortens the way for those who ask later.
            up = self.above[at]
            self.above[at] = self.above.get(up, up)
            at = self.above[at]
        return at

    def merge(self, one, other):
        """Puts two numbers into one class, and what must be equal then; returns whether it can be equal."""
        left = [(one, other)]
        while left:
            low, high = left.pop()
            low, high = self.root(low), self.root(high)
            if low == high:
                continue
            inner = self.joined(low, high)
            if inner is None:
                return False
            left.extend(inner)
        return True

    def joined(self, one, other):
        """Joins the classes of two roots; returns the pairs that must be equal then, or None if they cannot be."""
        line, against = self.stock.lines[one], self.stock.lines[other]
        if line[0] == "unknown" and (against[0] != "unknown" or against < line):
            self.above[one] = other
            return []
        if against[0] == "unknown":
            self.above[other] = one
            return []
        if line[0] != against[0] or line[0] in ATOMS:
            return None
        self.above[other] = one
        return list(zip(line[1:], against[1:]))

    def inner(self, number):
        """The roots of the inner forms of a number, as far as they have unknowns; others stay as they are."""
        line = self.stock.lines[number]
        if line[0] in ATOMS:
            return []
        return [self.root(place) for place in line[1:] if self.stock.masks[place] != 0]

    def changes(self):
        """The numbers that the unknowns become that must change, by theirs; None if nothing makes all equal."""
        unknowns = [number for number in self.above if self.stock.lines[number][0] == "unknown"]
        found = {}
        begun = {}
        left = [self.root(number) for number in unknowns]
        while left:
            number = left[-1]
            waiting = [root for root in self.inner(number) if root not in found]
            if number in found:
                left.pop()
            elif len(waiting) == 0:
                found[number] = self.made_of_roots(number, found)
            elif number in begun:
                # It waits for itself.
                return None
            else:
                begun[number] = True
                left.extend(waiting)
        return {number: found[self.root(number)] for number in unknowns}

    def made_of_roots(self, number, found):
        """The number of what a root becomes, made of what the roots in it become."""
        line = self.stock.lines[number]
        if line[0] in ATOMS:
            return number
        # What has no unknown may have a root that has some, but becomes nothing else.
        inner = [place if self.stock.masks[place] == 0 else found[self.root(place)] for place in line[1:]]
        return self.stock.noted((line[0], *inner))
