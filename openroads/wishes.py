"""Wishes: letters that are to be made of letters, with unknowns in all of them."""

from openroads.errors import BadFilling, BadWishes
from openroads.heaps import Heap
from openroads.letters import Letter
from openroads.solving import Solver, System
from openroads.tables import Stock, formed


def first_disorder(wishes):
    """The index of the first wish at which a list of wishes is not orderly, or None."""
    before = []
    told = {}
    for index, (letters, letter) in enumerate(wishes):
        if letters[:len(before)] != before:
            return index
        if not all([unknown in told for held in letters for unknown in held.unknowns()]):
            return index
        for unknown in letter.unknowns():
            told[unknown] = True
        before = letters
    return None


def granted(wishes, filling):
    """Whether a filling grants some wishes; BadFilling if it does not fill all their unknowns by plain letters."""
    for letters, letter in wishes:
        for held in [*letters, letter]:
            for unknown in held.unknowns():
                if unknown not in filling or len(filling[unknown].unknowns()) > 0:
                    raise BadFilling()
    for letters, letter in wishes:
        if letter.filled(filling) not in Heap([held.filled(filling) for held in letters]):
            return False
    return True


def system_of(stock, wishes):
    """The system with some wishes."""
    wished = [(len(letters), stock.put(letter.form()), ()) for letters, letter in wishes]
    pile = [stock.put(letter.form()) for letter in wishes[-1][0]] if wishes else []
    return System(tuple(pile), tuple(wished), tuple(stock.open_ends))


def answer_of(stock, forms, system):
    """The answer that a system tells which wishes for unknowns alone."""
    filling = {}
    for at, number in enumerate(stock.open_ends):
        if system.worth[at] != number:
            filling[forms[number][1]] = Letter(forms[system.worth[at]])
    rest = []
    for many, number, barred in system.wished:
        rest.append(([Letter(forms[held]) for held in system.pile[:many]], Letter(forms[number])))
    return filling, rest


def answers(wishes):
    """The whole of what grants an orderly list of wishes; BadWishes with the first one at which it is not orderly."""
    index = first_disorder(wishes)
    if index is not None:
        raise BadWishes(index)
    stock = Stock()
    found = Solver(stock).solutions(system_of(stock, wishes), False)
    forms = formed(stock.lines)
    return [answer_of(stock, forms, system) for system in found]
