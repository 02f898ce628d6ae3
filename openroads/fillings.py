"""Fillings: dicts from unknowns to letters."""

from openroads.atoms import ATOMS
from openroads.letters import Letter
from openroads.merging import Merger
from openroads.tables import Stock, formed


def lettered(forms):
    """The filling with the forms of a dict."""
    return {unknown: Letter(forms[unknown]) for unknown in forms}


def followed(one, other):
    """The filling that does first one and then other."""
    both = {unknown: other[unknown] for unknown in other}
    for unknown in one:
        both[unknown] = one[unknown].filled(other)
    return both


def match(pattern, letter):
    """The filling with which the pattern becomes the plain letter, or None."""
    forms = {}
    left = [(pattern.form(), letter.form())]
    while left:
        part, form = left.pop()
        if part[0] == "unknown":
            if forms.setdefault(part[1], form) != form:
                return None
        elif part[0] in ATOMS or part[0] != form[0]:
            if part != form:
                return None
        else:
            left.extend(list(zip(part[1:], form[1:])))
    return lettered(forms)


def narrowest(pairs):
    """The least filling with which both letters of every pair become equal, or None."""
    stock = Stock()
    merger = Merger(stock)
    for one, other in pairs:
        if not merger.merge(stock.put(one.form()), stock.put(other.form())):
            return None
    changes = merger.changes()
    if changes is None:
        return None
    forms = formed(stock.lines)
    return lettered({forms[number][1]: forms[changes[number]] for number in changes})
