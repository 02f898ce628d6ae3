"""Forms that must become equal, told by numbers.

Equal forms have one number, and what is merged is merged once. So the time does not grow with the forms that
come out, which can be far larger than those that went in.
"""

from openroads.atoms import ATOMS
from openroads.forms import forms_in, rebuilt


class Merger:
    """Numbered forms in classes, each class of those that must become equal.

    One member is the root of its class: one that is no unknown if there is one, else the first unknown.
    """

    def __init__(self):
        self.numbers = {}
        # An atom's row is its form; another row has the numbers of the inner forms behind the kind.
        self.rows = []
        # The way from each number to the root of its class, which is above itself.
        self.above = []

    def numbered(self, form):
        """The number of a form."""
        made = []
        for part in forms_in(form)[::-1]:
            made.append(self.noted(rebuilt(part, made)))
        return made.pop()

    def noted(self, row):
        """The number of the form with this row."""
        if row not in self.numbers:
            self.numbers[row] = len(self.rows)
            self.above.append(len(self.rows))
            self.rows.append(row)
        return self.numbers[row]

    def root(self, number):
        """The root of a number's class."""
        at = number
        while self.above[at] != at:
            # Shortens the way for those who ask later.
            self.above[at] = self.above[self.above[at]]
            at = self.above[at]
        return at

    def merge(self, one, other):
        """Puts two numbers into one class, and what must be equal then; returns whether it can be equal."""
        left = [(one, other)]
        while left:
            low, high = left.pop()
            low, high = self.root(low), self.root(high)
            if low == high:
                continue
            inner = self.joined(low, high)
            if inner is None:
                return False
            left.extend(inner)
        return True

    def joined(self, one, other):
        """Joins the classes of two roots; returns the pairs that must be equal then, or None if they cannot be."""
        row, against = self.rows[one], self.rows[other]
        if row[0] == "unknown" and (against[0] != "unknown" or against < row):
            self.above[one] = other
            return []
        if against[0] == "unknown":
            self.above[other] = one
            return []
        if row[0] != against[0] or row[0] in ATOMS:
            return None
        self.above[other] = one
        return list(zip(row[1:], against[1:]))

    def inner(self, number):
        """The roots of the inner forms of a number."""
        row = self.rows[number]
        if row[0] in ATOMS:
            return []
        return [self.root(place) for place in row[1:]]

    def forms(self):
        """The forms that the classes become, by their roots; None if one would be a part of itself."""
        forms = {}
        begun = {}
        left = [self.root(number) for number in range(len(self.rows))]
        while left:
            number = left[-1]
            waiting = [root for root in self.inner(number) if root not in forms]
            if number in forms:
                left.pop()
            elif len(waiting) == 0:
                forms[number] = self.formed(number, forms)
            elif number in begun:
                # It waits for itself.
                return None
            else:
                begun[number] = True
                left.extend(waiting)
        return forms

    def formed(self, number, forms):
        """The form of a number, made of those of the roots in it."""
        row = self.rows[number]
        if row[0] in ATOMS:
            return row
        return (row[0], *[forms[root] for root in self.inner(number)])

    def changes(self):
        """The forms of the unknowns that must change, by the unknowns; None if nothing makes all equal."""
        forms = self.forms()
        if forms is None:
            return None
        changed = {}
        for number, row in enumerate(self.rows):
            root = self.root(number)
            if row[0] == "unknown" and root != number:
                changed[row[1]] = forms[root]
        return changed
