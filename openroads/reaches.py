"""What can be made of a pile of forms in which unknowns stand.

A PILE is a tuple of the numbers of forms in a stock. A seal or a lock is SHUT if it lies open to view, but what opens
it cannot be made.
"""

from openroads.atoms import ATOMS
from openroads.forms import partner


def opener(stock, number):
    """The number of what opens the seal or lock with a number."""
    line = stock.lines[number]
    if line[0] == "seal":
        return line[2]
    return stock.noted(partner(stock.lines[line[2]]))


def may_meet(stock, one, other):
    """Whether two forms could become equal, as far as can be seen with each unknown looked at by itself."""
    looked = {}
    left = [(one, other)]
    while left:
        pair = left.pop()
        line, against = stock.lines[pair[0]], stock.lines[pair[1]]
        if pair[0] == pair[1] or pair in looked or line[0] == "unknown" or against[0] == "unknown":
            continue
        looked[pair] = True
        if line[0] != against[0] or line[0] in ATOMS or stock.masks[pair[0]] | stock.masks[pair[1]] == 0:
            return False
        left.extend(list(zip(line[1:], against[1:])))
    return True


class Reach:
    """What can be made of a pile for certain, if some other forms can be made, too."""

    def __init__(self, stock, pile, others):
        self.stock = stock
        self.others = {number: True for number in others}
        # The opened forms by their kinds, those that are shut, and whether what has been asked for can be made.
        self.opened_of = {}
        self.shut = []
        self.able = {}
        left = list(pile)
        while left:
            self.lay_out(left)
            # More may be made now than before.
            self.able = {}
            turned = {number: self.makes(opener(stock, number)) for number in self.shut}
            self.shut = [number for number in turned if not turned[number]]
            left = [stock.lines[number][1] for number in turned if turned[number]]

    def lay_out(self, numbers):
        """Puts some forms among the opened ones, and what lies open with them."""
        left = list(numbers)
        while left:
            number = left.pop()
            kind = self.stock.lines[number][0]
            same = self.opened_of.setdefault(kind, {})
            if number not in same:
                same[number] = True
                left.extend(self.opened_with(number))
                if kind == "seal" or kind == "lock":
                    self.shut.append(number)

    def opened_with(self, number):
        """What lies open if a form does."""
        line = self.stock.lines[number]
        return line[1:] if line[0] == "pair" else ()

    def makes(self, number):
        """Whether a form can be made."""
        if number not in self.able:
            for part in self.stock.within(number):
                if part not in self.able:
                    self.able[part] = self.is_composed(part) or self.is_there(part)
        return self.able[number]

    def is_composed(self, number):
        """Whether a form can be put together."""
        line = self.stock.lines[number]
        if line[0] in ATOMS or line[0] == "own":
            return line[0] == "word"
        return all([self.makes(inner) for inner in line[1:]])

    def is_opened(self, number):
        """Whether a form lies open."""
        return number in self.opened_of.get(self.stock.lines[number][0], {})

    def is_there(self, number):
        """Whether a form can be had without being put together."""
        return number in self.others or self.is_opened(number)


class Hope(Reach):
    """What can be made of a pile at best, with guesses at what unknowns become that cannot be made themselves.

    No filling makes anything else of it, if all that such unknowns can become is among the guesses.
    """

    def __init__(self, stock, pile, guesses):
        self.guesses = {unknown: told for unknown, told in guesses}
        self.guessed = {}
        Reach.__init__(self, stock, pile, ())

    def opened_with(self, number):
        """What lies open at best if a form does."""
        line = self.stock.lines[number]
        if line[0] == "unknown":
            return self.guesses.get(number, ())
        return line[1:] if line[0] == "pair" else ()

    def is_there(self, number):
        """Whether a form can be had at best without being put together."""
        kind = self.stock.lines[number][0]
        if kind == "unknown":
            return True
        for part in self.opened_of.get(kind, {}):
            if self.may_equal(number, part):
                return True
        return False

    def may_equal(self, number, part):
        """Whether a form may become equal to one that may come to lie open, as far as can be seen."""
        lines = self.stock.lines
        looked = {}
        left = [(number, part)]
        while left:
            pair = left.pop()
            line, against = lines[pair[0]], lines[pair[1]]
            if pair[0] == pair[1] or pair in looked or line[0] == "unknown":
                continue
            looked[pair] = True
            if against[0] == "unknown":
                if not self.may_become(pair[1], pair[0]):
                    return False
            elif line[0] != against[0] or self.stock.masks[pair[0]] | self.stock.masks[pair[1]] == 0:
                return False
            else:
                left.extend(list(zip(line[1:], against[1:])))
        return True

    def may_become(self, unknown, number):
        """Whether an unknown in the pile may become a form that is none."""
        if self.makes(number):
            return True
        return any([may_meet(self.stock, number, told) for told in self.guesses.get(unknown, ())])

    def is_closed(self, mask):
        """Whether all unknowns that lie open at best are those with the bits of a mask."""
        for number in self.opened_of.get("unknown", {}):
            if self.stock.masks[number] & mask == 0:
                return False
        return True

    def guesses_at(self, number):
        """The guesses at the unknowns in a form that can be made, by the unknowns."""
        if number not in self.guessed:
            self.guessed[number] = self.found_guesses(number)
        return self.guessed[number]

    def found_guesses(self, number):
        """Finds these guesses, and tells them."""
        found = {part: [] for part in self.stock.within(number) if self.stock.lines[part][0] == "unknown"}
        looked = {}
        # A form with None can be made; a form with another one is equal to it.
        left = [(number, None)]
        while left:
            pair = left.pop()
            if pair not in looked and self.stock.masks[pair[0]] != 0:
                looked[pair] = True
                if self.stock.lines[pair[0]][0] != "unknown":
                    left.extend(self.guessed_on(pair[0], pair[1]))
                elif pair[1] is not None and pair[1] != pair[0]:
                    found[pair[0]].append(pair[1])
        return {unknown: tuple(found[unknown]) for unknown in found}

    def guessed_on(self, number, other):
        """What else can be made or must be equal, if a form can be made (other is None) or is equal to another one."""
        line = self.stock.lines[number]
        if other is None:
            found = [(inner, None) for inner in line[1:] if line[0] != "own"]
            same = self.opened_of.get(line[0], {})
            found.extend([(number, part) for part in same if self.may_equal(number, part)])
            return found
        if self.stock.lines[other][0] == "unknown":
            return [(number, None), *[(number, told) for told in self.guesses.get(other, ())]]
        return list(zip(line[1:], self.stock.lines[other][1:])) if self.stock.lines[other][0] == line[0] else []


def is_of_use(reach, hope, part, number):
    """Whether a part of a pile may become equal to a form that cannot be made, and is of use for this."""
    # What is put together of what can be made is equal to what is put together in another way, too.
    return hope.may_equal(number, part) and not reach.is_composed(part)


def parts_like(reach, hope, number):
    """The opened forms that are no unknowns and may become equal to a form that cannot be made."""
    kind = reach.stock.lines[number][0]
    return [part for part in reach.opened_of.get(kind, {}) if is_of_use(reach, hope, part, number)]


def is_behind(reach, hope, shut, number):
    """Whether something may come to lie open, if what is shut is opened, that may become equal to a form."""
    lines = reach.stock.lines
    looked = {}
    left = [lines[shut][1]]
    while left:
        part = left.pop()
        # What lies open already is looked at for itself.
        if part in looked or reach.is_opened(part):
            continue
        looked[part] = True
        line = lines[part]
        if line[0] == lines[number][0] and is_of_use(reach, hope, part, number):
            return True
        if line[0] == "pair":
            left.extend(line[1:])
        elif (line[0] == "seal" or line[0] == "lock") and hope.makes(opener(reach.stock, part)):
            left.append(line[1])
    return False


def ways_in(reach, hope, number):
    """The shut seals and locks behind which a form that cannot be made may lie, if they are opened."""
    openable = [shut for shut in reach.shut if hope.makes(opener(reach.stock, shut))]
    return [shut for shut in openable if is_behind(reach, hope, shut, number)]
