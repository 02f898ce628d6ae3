"""Forms that must become equal, told by numbers.

What is merged is merged once. So the time does not grow with the forms that come out, which can be far larger than
those that went in.
"""

from openroads.atoms import ATOMS


class Merger:
    """The forms of a table in classes, each class of those that must become equal.

    One member is the root of its class: one that is no unknown if there is one, else the first unknown.
    """

    def __init__(self, lines):
        self.lines = lines
        # The way from each number to the root of its class, which is above itself.
        self.above = [number for number in range(len(lines))]

    def root(self, number):
        """The root of a number's class."""
        at = number
        while self.above[at] != at:
            # Shortens the way for those who ask later.
            self.above[at] = self.above[self.above[at]]
            at = self.above[at]
        return at

    def merge(self, one, other):
        """Puts two numbers into one class, and what must be equal then; returns whether it can be equal."""
        left = [(one, other)]
        while left:
            low, high = left.pop()
            low, high = self.root(low), self.root(high)
            if low == high:
                continue
            inner = self.joined(low, high)
            if inner is None:
                return False
            left.extend(inner)
        return True

    def joined(self, one, other):
        """Joins the classes of two roots; returns the pairs that must be equal then, or None if they cannot be."""
        line, against = self.lines[one], self.lines[other]
        if line[0] == "unknown" and (against[0] != "unknown" or against < line):
            self.above[one] = other
            return []
        if against[0] == "unknown":
            self.above[other] = one
            return []
        if line[0] != against[0] or line[0] in ATOMS:
            return None
        self.above[other] = one
        return list(zip(line[1:], against[1:]))

    def inner(self, number):
        """The roots of the inner forms of a number."""
        line = self.lines[number]
        if line[0] in ATOMS:
            return []
        return [self.root(place) for place in line[1:]]

    def forms(self):
        """The forms that the classes become, by their roots; None if one would be a part of itself."""
        forms = {}
        begun = {}
        left = [self.root(number) for number in range(len(self.lines))]
        while left:
            number = left[-1]
            waiting = [root for root in self.inner(number) if root not in forms]
            if number in forms:
                left.pop()
            elif len(waiting) == 0:
                forms[number] = self.formed(number, forms)
            elif number in begun:
                # It waits for itself.
                return None
            else:
                begun[number] = True
                left.extend(waiting)
        return forms

    def formed(self, number, forms):
        """The form of a number, made of those of the roots in it."""
        line = self.lines[number]
        if line[0] in ATOMS:
            return line
        return (line[0], *[forms[root] for root in self.inner(number)])

    def changes(self):
        """The forms of the unknowns that must change, by the unknowns; None if nothing makes all equal."""
        forms = self.forms()
        if forms is None:
            return None
        changed = {}
        for number, line in enumerate(self.lines):
            root = self.root(number)
            if line[0] == "unknown" and root != number:
                changed[line[1]] = forms[root]
        return changed
