"""Forms of letters: nested tuples of strings.

Nothing here calls itself, so that forms may be nested deeper than calls.
"""

from openroads.atoms import ATOMS, is_atom

KEYS = ("open", "own")
PARTNERS = {"open": "own", "own": "open"}

# How many items the form of each kind has, its kind among them.
SIZES = {
    "word": 2,
    "name": 2,
    "unknown": 2,
    "pair": 3,
    "seal": 3,
    "lock": 3,
    "mark": 2,
    "open": 2,
    "own": 2,
}


def stands_alone(part):
    """Whether any object is a form as far as can be told without looking into its inner parts."""
    if not isinstance(part, tuple) or len(part) == 0:
        return False
    kind = part[0]
    # A list as the first item could not be looked up.
    if not isinstance(kind, str) or kind not in SIZES or len(part) != SIZES[kind]:
        return False
    return kind not in ATOMS or is_atom(kind, part[1])


def first_fault(thing):
    """The path of the first part of any object that is no form, or None if the object is a form."""
    left = [((), thing, False)]
    while left:
        path, part, is_behind = left.pop()
        if is_behind:
            # The inner parts of this lock are forms by now, so its key has a kind.
            if part[2][0] not in KEYS:
                return path
            continue
        if not stands_alone(part):
            return path
        if part[0] in ATOMS:
            continue
        if part[0] == "lock":
            left.append((path, part, True))
        for at in range(len(part) - 1, 0, -1):
            left.append((path + (at,), part[at], False))
    return None


def forms_in(form):
    """Each form that stands in a form, as often as it stands: each ahead of its inner ones, from left to right."""
    found = []
    left = [form]
    while left:
        part = left.pop()
        found.append(part)
        if part[0] not in ATOMS:
            left.extend(part[:0:-1])
    return found


def partner(key):
    """The partner of a key, both told in the same way."""
    return (PARTNERS[key[0]], key[1])


def rebuilt(part, made):
    """A part that is no atom, with things off the end of a list in the places of its inner forms, the last one first.

    If the forms in a form are gone through from behind, what was made last is just what was made of these inner forms.
    """
    return (part[0], *[made.pop() for place in part[1:]])


def exchanged(form, forms):
    """A form in which the atoms that a dict has are replaced by its forms, all at once."""
    made = []
    for part in forms_in(form)[::-1]:
        if part[0] in ATOMS:
            made.append(forms.get(part, part))
        else:
            made.append(rebuilt(part, made))
    return made.pop()
