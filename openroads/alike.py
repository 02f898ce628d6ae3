"""Heaps that are alike to the stranger, and the tests by which the others are parted."""

from openroads.errors import BadHeaps
from openroads.forms import KEYS, forms_in
from openroads.heaps import Heap
from openroads.letters import Letter
from openroads.making import derivations, recipe_of
from openroads.recipes import INNER, Bench
from openroads.tables import table


def probes(forms):
    """Locks of a word by the keys in some forms and by the open keys among their partners.

    They stand for what keys can be tested by: whether they lock, and which of them belong together.
    """
    keys = [part for form in forms for part in forms_in(form) if part[0] in KEYS]
    keys.extend([("open", key[1]) for key in keys if key[0] == "own"])
    return [("lock", ("word", "a"), key) for key in keys]


def told_by(forms, others):
    """A test by which others are parted from some forms, or None if all that works with these goes so with the others.

    One recipe for each form that can be made of the forms, as far as it stands in them or in the probes, and each
    further step by which one of these forms can be made of the others is enough: every recipe is made up of such
    steps, of putting together what stands nowhere, and of taking apart what was put together.
    """
    lines, numbers = table([*forms, *probes(forms)])
    bench = Bench(others)
    recipes = {}
    values = {}
    for derivation in derivations(lines, numbers[:len(forms)]):
        kind, inputs, result = derivation[1:]
        recipe = recipe_of(derivation, lines[result], recipes)
        if kind in INNER:
            value = bench.worked(kind, [values[number] for number in inputs])
        else:
            value = bench.taken(kind, recipe[1])
        if value is None:
            return ("works", recipe)
        if result not in recipes:
            recipes[result] = recipe
            values[result] = value
        elif values[result] != value:
            return ("same", recipe, recipes[result])
    return None


def parting(one, other):
    """A test by which two heaps are parted, or None if they are alike; BadHeaps if their lengths are unlike."""
    if len(one) != len(other):
        raise BadHeaps()
    forms = [letter.form() for letter in one.letters()]
    others = [letter.form() for letter in other.letters()]
    test = told_by(forms, others)
    if test is None:
        test = told_by(others, forms)
    return test


def alike(one, other):
    """Whether two heaps are alike; BadHeaps if their lengths are unlike."""
    return parting(one, other) is None


def fresh_name(letters):
    """A name that is no part of any of some letters."""
    names = {name: True for letter in letters for name in letter.names()}
    number = 0
    while f"N{number}" in names:
        number += 1
    return Letter(f"N{number}")


def guess(heap, name):
    """A test by which a guess at a name can be looked at, with the guess as the last letter of the heap, or None."""
    letters = heap.letters()
    other = fresh_name([*letters, name])
    return parting(Heap([*letters, name]), Heap([*letters, other]))
