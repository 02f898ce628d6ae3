"""What can be made of some forms, where an unknown counts like a name.

The operators of heaps lead here, so all changes are made on lists and dicts that a function has made itself.

A STEP makes one form out of others: its kind, which is that of a recipe, the numbers of these forms, and the number
of what it makes. A DERIVATION is a step with the size of the smallest recipe that ends with it ahead of it.
"""

from openroads.atoms import ATOMS
from openroads.forms import forms_in, partner
from openroads.tables import formed, numbered, table


def open_keys(forms):
    """The open keys that undo the locks by the own keys in some forms. (Own keys that stand nowhere cannot be made.)"""
    return [("open", part[1]) for form in forms for part in forms_in(form) if part[0] == "own"]


def openers(lines):
    """For each line the number of what opens it, or None if it is no seal and no lock, or nothing can open it."""
    numbers = numbered(lines)
    found = []
    for line in lines:
        if line[0] == "seal":
            found.append(line[2])
        elif line[0] == "lock":
            found.append(numbers.get(partner(lines[line[2]])))
        else:
            found.append(None)
    return found


def steps(lines):
    """All steps among the forms of a table that need other forms."""
    found = []
    opening = openers(lines)
    for number, line in enumerate(lines):
        if line[0] not in ATOMS and line[0] != "own":
            found.append((line[0], line[1:], number))
        if line[0] == "pair":
            found.append(("first", (number,), line[1]))
            found.append(("second", (number,), line[2]))
        elif opening[number] is not None:
            found.append(("un" + line[0], (number, opening[number]), line[1]))
    return found


def uses(lines):
    """How many steps need each number; and these steps, by the number and how many of its steps stand before."""
    counts = [0 for line in lines]
    found = {}
    for step in steps(lines):
        for number in sorted(set(step[1])):
            found[(number, counts[number])] = step
            counts[number] = counts[number] + 1
    return counts, found


def place_among(things, thing):
    """How many things of an ascending list are less than a thing."""
    low, high = 0, len(things)
    while low < high:
        middle = (low + high) // 2
        if things[middle] < thing:
            low = middle + 1
        else:
            high = middle
    return low


def derivations(lines, places):
    """All derivations from the forms with some numbers, ascending; the first one of a number has its smallest recipe.

    What needs a form is looked at when its smallest recipe is known, and is larger than this. So nothing comes in
    ahead of what has been looked at.
    """
    counts, using = uses(lines)
    found = [(1, "at", (k,), number) for k, number in enumerate(places)]
    found.extend([(1, "word", (), number) for number, line in enumerate(lines) if line[0] == "word"])
    sizes = {}
    at = 0
    while at < len(found):
        size, result = found[at][0], found[at][3]
        at = at + 1
        if result in sizes:
            continue
        sizes[result] = size
        for turn in range(counts[result]):
            kind, inputs, outcome = using[(result, turn)]
            if all([number in sizes for number in inputs]):
                derived = (1 + sum([sizes[number] for number in inputs]), kind, inputs, outcome)
                found.insert(place_among(found, derived), derived)
    return found


def recipe_of(derivation, line, recipes):
    """The recipe that ends with a derivation of what has a line, with those of the numbers that it needs."""
    kind, inputs = derivation[1], derivation[2]
    if kind == "at":
        return (kind, inputs[0])
    if kind == "word":
        return line
    return (kind, *[recipes[number] for number in inputs])


def made(lines, places):
    """The numbers of what can be made of the forms with some numbers, as a dict of True."""
    return {derivation[3]: True for derivation in derivations(lines, places)}


def can_make(forms, form):
    """Whether a form can be made of some forms."""
    lines, numbers = table([*forms, form, *open_keys([*forms, form])])
    return numbers[len(forms)] in made(lines, numbers[:len(forms)])


def smallest_recipe(forms, form):
    """A recipe that makes a form of some forms with as few tuples as can be, or None."""
    lines, numbers = table([*forms, form, *open_keys([*forms, form])])
    recipes = {}
    for derivation in derivations(lines, numbers[:len(forms)]):
        result = derivation[3]
        if result not in recipes:
            recipes[result] = recipe_of(derivation, lines[result], recipes)
    return recipes.get(numbers[len(forms)])


def looked_into(line, opener, held):
    """The numbers of what one has who has what has a line, and can make what is held."""
    if line[0] == "pair":
        return line[1:]
    return line[1:2] if opener in held else ()


def opened(forms):
    """The opened parts of some forms, each once."""
    lines, numbers = table([*forms, *open_keys(forms)])
    opening = openers(lines)
    held = made(lines, numbers[:len(forms)])
    found = {}
    left = numbers[:len(forms)]
    while left:
        number = left.pop()
        if number not in found:
            found[number] = True
            left.extend(looked_into(lines[number], opening[number], held))
    told = formed(lines)
    return [told[number] for number in found]


def is_seen_through(forms, form):
    """Whether who holds some forms can open and compare all of a form."""
    lines, numbers = table([*forms, form, *open_keys([*forms, form])])
    opening = openers(lines)
    held = made(lines, numbers[:len(forms)])
    left = [numbers[len(forms)]]
    while left:
        number = left.pop()
        if number not in held:
            inner = looked_into(lines[number], opening[number], held)
            if len(inner) == 0:
                return False
            left.extend(inner)
    return True
