"""What can be made of a pile of forms in which unknowns stand.

A PILE is a tuple of the numbers of forms in a stock. A seal or a lock is SHUT if it lies open to view, but what opens
it cannot be made.
"""

from openroads.atoms import ATOMS
from openroads.forms import partner


def opener(stock, number):
    """The number of what opens the seal or lock with a number."""
    line = stock.lines[number]
    if line[0] == "seal":
        return line[2]
    return stock.noted(partner(stock.lines[line[2]]))


def may_meet(stock, one, other):
    """Whether two forms could become equal, as far as can be seen with each unknown looked at by itself."""
    looked = {}
    left = [(one, other)]
    while left:
        pair = left.pop()
        line, against = stock.lines[pair[0]], stock.lines[pair[1]]
        if pair[0] == pair[1] or pair in looked or line[0] == "unknown" or against[0] == "unknown":
            continue
        looked[pair] = True
        if line[0] != against[0] or line[0] in ATOMS or stock.masks[pair[0]] | stock.masks[pair[1]] == 0:
            return False
        left.extend(list(zip(line[1:], against[1:])))
    return True


class Reach:
    """What can be made of a pile for certain, if some other forms can be made, too."""

    def __init__(self, stock, pile, others):
        self.stock = stock
        self.others = {number: True for number in others}
        # The opened forms by their kinds, those that are shut, and whether what has been asked for can be made.
        self.opened_of = {}
        self.shut = []
        self.able = {}
        left = list(pile)
        while left:
            self.lay_out(left)
            # More may be made now than before.
            self.able = {}
            turned = {number: self.makes(opener(stock, number)) for number in self.shut}
            self.shut = [number for number in turned if not turned[number]]
            left = [stock.lines[number][1] for number in turned if turned[number]]

    def lay_out(self, numbers):
        """Puts some forms among the opened ones, and what is in the pairs among them."""
        left = list(numbers)
        while left:
            number = left.pop()
            line = self.stock.lines[number]
            same = self.opened_of.setdefault(line[0], {})
            if number not in same:
                same[number] = True
                if line[0] == "pair":
                    left.extend(line[1:])
                elif line[0] == "seal" or line[0] == "lock":
                    self.shut.append(number)

    def makes(self, number):
        """Whether a form can be made."""
        if number not in self.able:
            for part in self.stock.within(number):
                if part not in self.able:
                    self.able[part] = self.is_composed(part) or self.is_there(part)
        return self.able[number]

    def is_composed(self, number):
        """Whether a form can be put together."""
        line = self.stock.lines[number]
        if line[0] in ATOMS or line[0] == "own":
            return line[0] == "word"
        return all([self.makes(inner) for inner in line[1:]])

    def is_opened(self, number):
        """Whether a form lies open."""
        return number in self.opened_of.get(self.stock.lines[number][0], {})

    def is_there(self, number):
        """Whether a form can be had without being put together."""
        return number in self.others or self.is_opened(number)


class Hope(Reach):
    """What can be made of a pile at best, if all unknowns that lie open can be made without it.

    No filling makes anything else of it then.
    """

    def is_there(self, number):
        """Whether a form can be had at best without being put together."""
        kind = self.stock.lines[number][0]
        if kind == "unknown":
            return True
        for other in self.opened_of.get(kind, {}):
            if may_meet(self.stock, number, other):
                return True
        return False

    def is_closed(self, mask):
        """Whether all unknowns that lie open at best are those with the bits of a mask."""
        for number in self.opened_of.get("unknown", {}):
            if self.stock.masks[number] & mask == 0:
                return False
        return True


def is_alike_part(reach, part, number):
    """Whether a part of a pile may become equal to a form that cannot be made, and is of use for this."""
    # What is put together of what can be made is equal to what is put together in another way, too.
    return may_meet(reach.stock, part, number) and not reach.is_composed(part)


def parts_like(reach, number):
    """The opened forms that are no unknowns and may become equal to a form that cannot be made."""
    kind = reach.stock.lines[number][0]
    return [part for part in reach.opened_of.get(kind, {}) if is_alike_part(reach, part, number)]


def is_behind(reach, hope, shut, number):
    """Whether something may come to lie open, if what is shut is opened, that may become equal to a form."""
    lines = reach.stock.lines
    looked = {}
    left = [lines[shut][1]]
    while left:
        part = left.pop()
        # What lies open already is looked at for itself.
        if part in looked or reach.is_opened(part):
            continue
        looked[part] = True
        line = lines[part]
        if line[0] == lines[number][0] and is_alike_part(reach, part, number):
            return True
        if line[0] == "pair":
            left.extend(line[1:])
        elif (line[0] == "seal" or line[0] == "lock") and hope.makes(opener(reach.stock, part)):
            left.append(line[1])
    return False


def ways_in(reach, hope, number):
    """The shut seals and locks behind which a form that cannot be made may lie, if they are opened."""
    openable = [shut for shut in reach.shut if hope.makes(opener(reach.stock, shut))]
    return [shut for shut in openable if is_behind(reach, hope, shut, number)]
