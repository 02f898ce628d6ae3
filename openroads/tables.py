"""Forms told by numbers: equal forms have one number, however often they stand somewhere.

The LINE of an atom is its form; the line of another form has the numbers of the inner forms behind the kind. These
numbers are always below the one of the form itself.
"""

from openroads.atoms import ATOMS
from openroads.forms import forms_in


def table(forms):
    """The list of the lines of all forms in some forms, each once, and the list of the numbers of these themselves."""
    lines = []
    numbers = {}
    found = []
    for form in forms:
        made = []
        for part in forms_in(form)[::-1]:
            # From behind, what was made last are the numbers of the inner forms, the first one at the end.
            if part[0] in ATOMS:
                line = part
            elif len(part) == 2:
                line = (part[0], made.pop())
            else:
                line = (part[0], made.pop(), made.pop())
            if line not in numbers:
                numbers[line] = len(lines)
                lines.append(line)
            made.append(numbers[line])
        found.append(made.pop())
    return lines, found


def numbered(lines):
    """The numbers of lines, by the lines."""
    return {line: number for number, line in enumerate(lines)}


def formed(lines):
    """The forms with these lines."""
    forms = []
    for line in lines:
        if line[0] in ATOMS:
            forms.append(line)
        else:
            forms.append((line[0], *[forms[number] for number in line[1:]]))
    return forms
