"""Forms told by numbers: equal forms have one number, however often they stand somewhere.

The LINE of an atom is its form; the line of another form has the numbers of the inner forms behind the kind. These
numbers are always below the one of the form itself.
"""

from openroads.atoms import ATOMS
from openroads.forms import forms_in, rebuilt


def table(forms):
    """The list of the lines of all forms in some forms, each once, and the list of the numbers of these themselves."""
    lines = []
    numbers = {}
    found = []
    for form in forms:
        made = []
        for part in forms_in(form)[::-1]:
            # From behind, what was made last are the numbers of the inner forms, the first one at the end.
            if part[0] in ATOMS:
                line = part
            elif len(part) == 2:
                line = (part[0], made.pop())
            else:
                line = (part[0], made.pop(), made.pop())
            if line not in numbers:
                numbers[line] = len(lines)
                lines.append(line)
            made.append(numbers[line])
        found.append(made.pop())
    return lines, found


def numbered(lines):
    """The numbers of lines, by the lines."""
    return {line: number for number, line in enumerate(lines)}


def formed(lines):
    """The forms with these lines."""
    forms = []
    for line in lines:
        if line[0] in ATOMS:
            forms.append(line)
        else:
            forms.append((line[0], *[forms[number] for number in line[1:]]))
    return forms


class Stock:
    """A table that grows.

    Each unknown has a bit of its own, in the order of open_ends, which has their numbers; masks has the bits of the
    unknowns in each form. So it is soon told whether a form is plain, or has an unknown out of some.
    """

    def __init__(self):
        self.lines = []
        self.numbers = {}
        self.masks = []
        self.open_ends = []
        self.inside = {}

    def noted(self, line):
        """The number of the form with a line."""
        if line not in self.numbers:
            self.numbers[line] = len(self.lines)
            self.lines.append(line)
            self.masks.append(self.mask_of(line))
        return self.numbers[line]

    def mask_of(self, line):
        """The bits of the unknowns in the form with a new line."""
        if line[0] == "unknown":
            self.open_ends.append(self.numbers[line])
            return 1 << (len(self.open_ends) - 1)
        return 0 if line[0] in ATOMS else self.mask_in(line[1:])

    def mask_in(self, numbers):
        """The bits of the unknowns in some forms."""
        mask = 0
        for number in numbers:
            mask = mask | self.masks[number]
        return mask

    def put(self, form):
        """The number of a form."""
        made = []
        for part in forms_in(form)[::-1]:
            made.append(self.noted(part if part[0] in ATOMS else rebuilt(part, made)))
        return made.pop()

    def within(self, number):
        """The ascending list of the numbers of all forms in a form: each behind its inner ones."""
        if number not in self.inside:
            found = {}
            left = [number]
            while left:
                at = left.pop()
                if at not in found:
                    found[at] = True
                    if self.lines[at][0] not in ATOMS:
                        left.extend(self.lines[at][1:])
            self.inside[number] = sorted(set(list(found)))
        return list(self.inside[number])

    def replaced(self, numbers, changes):
        """The numbers of some forms in which the unknowns with the numbers that a dict has become other forms."""
        mask = self.mask_in(list(changes))
        found = dict(changes)
        for number in numbers:
            self.replace_in(number, mask, found)
        return [found.get(number, number) for number in numbers]

    def replace_in(self, number, mask, found):
        """Finds what a form becomes, and all in it that has an unknown out of a mask."""
        left = [number]
        while left:
            at = left[-1]
            line = self.lines[at]
            waiting = []
            if at not in found and self.masks[at] & mask != 0:
                waiting = [inner for inner in line[1:] if inner not in found and self.masks[inner] & mask != 0]
                if len(waiting) == 0:
                    found[at] = self.noted((line[0], *[found.get(inner, inner) for inner in line[1:]]))
            if len(waiting) == 0:
                left.pop()
            left.extend(waiting)
