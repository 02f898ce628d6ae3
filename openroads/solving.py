"""How the whole of what grants an orderly list of wishes is found.

A wish is told by a triple here: how many forms of a pile it is to be made of, the number of the wished form, and the
numbers of the seals and locks that are BARRED: those that must not be opened for it.

An unknown is SAFE for a wish if it is wished for alone ahead of it, and all unknowns that may come to lie open in the
pile of that wish are safe for it. If all unknowns that may come to lie open in the pile of a wish are safe for it, its
form is either put together or equal to an opened one that is no unknown: what can be opened in what an unknown becomes
can be had without it, too. The first wish that is none for an unknown alone is always such a wish.
"""

from openroads.atoms import ATOMS
from openroads.merging import Merger
from openroads.reaches import Hope, Reach, opener, parts_like, ways_in

# More options than a wish can have.
FAR = 1000000

# So many reaches and hopes are kept for those who ask again.
KEPT = 2000


class System:
    """A pile, a tuple of wishes, and the tuple of what the unknowns of the stock have become; it never changes."""

    def __init__(self, pile, wished, worth):
        self.pile = pile
        self.wished = wished
        self.worth = worth


def beside(system, place, wished):
    """The system that has other wishes in the place of one."""
    return System(system.pile, (*system.wished[:place], *wished, *system.wished[place + 1:]), system.worth)


def changed(stock, system, changes):
    """The system in which some unknowns become other forms."""
    if len(changes) == 0:
        return system
    numbers = [*system.pile, *system.worth]
    for many, number, barred in system.wished:
        numbers.extend([number, *barred])
    found = stock.replaced(numbers, changes)
    new = {number: found[at] for at, number in enumerate(numbers)}
    wished = [(many, new[number], tuple([new[shut] for shut in barred])) for many, number, barred in system.wished]
    return System(tuple([new[number] for number in system.pile]), tuple(wished),
                  tuple([new[number] for number in system.worth]))


def equalled(stock, system, one, other):
    """The system in which two forms are equal, or None if they cannot be."""
    merger = Merger(stock)
    changes = merger.changes() if merger.merge(one, other) else None
    return None if changes is None else changed(stock, system, changes)


def ahead(system, place):
    """The numbers of what is wished for ahead of a place."""
    return tuple([number for many, number, barred in system.wished[:place]])


class Solver:
    """Finds what grants systems over one stock."""

    def __init__(self, stock):
        self.stock = stock
        self.reaches = {}
        self.hopes = {}

    def reach(self, pile, others):
        """What can be made of a pile if some other forms can be made, too."""
        if len(self.reaches) > KEPT:
            self.reaches = {}
        if (pile, others) not in self.reaches:
            self.reaches[(pile, others)] = Reach(self.stock, pile, others)
        return self.reaches[(pile, others)]

    def hope(self, pile, guesses):
        """What can be made of a pile at best with some guesses, a dict."""
        bits = self.stock.mask_in(pile)
        # Nothing is asked of unknowns that are not in the pile.
        here = [unknown for unknown in guesses if self.stock.masks[unknown] & bits != 0]
        told = tuple([(unknown, guesses[unknown]) for unknown in here if len(guesses[unknown]) > 0])
        if len(self.hopes) > KEPT:
            self.hopes = {}
        if (pile, told) not in self.hopes:
            self.hopes[(pile, told)] = Hope(self.stock, pile, told)
        return self.hopes[(pile, told)]

    def settled(self, system):
        """A system that the same grants, without wishes for pairs and wishes that those ahead of them grant."""
        kept = []
        told = []
        left = list(system.wished[::-1])
        while left:
            wish = left.pop()
            many, number, barred = wish
            line = self.stock.lines[number]
            if self.reach(system.pile[:many], tuple(told)).makes(number):
                continue
            if line[0] == "pair":
                left.extend([(many, line[2], barred), (many, line[1], barred)])
            else:
                kept.append(wish)
                told.append(number)
        return System(system.pile, tuple(kept), system.worth)

    def options(self, system, place, hope):
        """The ways in which a wish can come true, all together."""
        many, number, barred = system.wished[place]
        kind = self.stock.lines[number][0]
        pile = system.pile[:many]
        reach = self.reach(pile, ahead(system, place))
        found = [] if kind in ATOMS or kind == "own" else [("made", number, barred)]
        found.extend([("equal", part, barred) for part in parts_like(reach, hope, number)])
        for shut in ways_in(reach, hope, number):
            if shut not in barred:
                found.append(("opened", shut, barred))
                # If this can be opened at all, the option ahead has it.
                barred = (*barred, shut)
        return found

    def taken_by(self, system, place, option):
        """The system in which a wish comes true in one of these ways, or None."""
        many, number = system.wished[place][0], system.wished[place][1]
        kind, part, barred = option
        if kind == "made":
            return beside(system, place, [(many, inner, barred) for inner in self.stock.lines[number][1:]])
        if kind == "equal":
            return equalled(self.stock, beside(system, place, []), number, part)
        # Whatever is opened, its key can be had without what is behind it.
        key = (many, opener(self.stock, part), (*barred, part))
        return beside(system, place, [key, (many, number, barred)])

    def hopes_of(self, system):
        """What can be made at best for each wish; a wish that cannot come true is the last one."""
        guesses = {}
        found = []
        for many, number, barred in system.wished:
            found.append(self.hope(system.pile[:many], guesses))
            if not found[-1].makes(number):
                break
            # The wish in which an unknown stands first tells all that it can become.
            told = found[-1].guesses_at(number)
            guesses = {**told, **guesses}
        return found

    def narrowest_wish(self, system, focus):
        """The place of a wish with as few options as can be, and these options; no options if there is no hope.

        Of several options to choose from, those of a wish that has an unknown of a mask come first. The place is None
        if all are wishes for unknowns alone.
        """
        hopes = self.hopes_of(system)
        if len(hopes) > 0 and not hopes[-1].makes(system.wished[len(hopes) - 1][1]):
            return len(hopes) - 1, []
        mask = 0
        best, least, fewest = None, 0, []
        for place, (many, number, barred) in enumerate(system.wished):
            if not hopes[place].is_closed(mask):
                break
            if self.stock.lines[number][0] == "unknown":
                mask = mask | self.stock.masks[number]
                continue
            options = self.options(system, place, hopes[place])
            is_aside = len(options) > 1 and self.stock.masks[number] & focus == 0
            weight = len(options) + FAR if is_aside else len(options)
            if best is None or weight < least:
                best, least, fewest = place, weight, options
        return best, fewest

    def onwards(self, system, focus):
        """The steps to systems that all together are granted by what grants a settled one; None if it is at its end.

        A STEP is a system, the place of a wish, and one of its options. They are chosen so that soon more is known of
        the unknowns of a mask.
        """
        place, options = self.narrowest_wish(system, focus)
        return None if place is None else [(system, place, option) for option in options]

    def behind(self, step):
        """The settled system behind a step, or None if nothing grants it; without a place the step changes nothing."""
        system, place, option = step
        after = system if place is None else self.taken_by(system, place, option)
        return None if after is None else self.settled(after)

    def forced(self, system):
        """A system that the same grants, as far as it can be told without a choice; None if nothing grants it."""
        now = self.settled(system)
        steps = self.onwards(now, 0)
        while now is not None and steps is not None and len(steps) == 1:
            now = self.behind(steps[0])
            steps = [] if now is None else self.onwards(now, 0)
        return None if steps == [] else now

    def solutions(self, system, is_one_enough):
        """The systems with wishes for unknowns alone that all together are granted by what grants a system.

        If one is enough, the others are left out.
        """
        found = {}
        looked = {}
        left = [(system, None, None)]
        while left:
            now = self.behind(left.pop())
            if now is None or (now.worth, now.wished) in looked:
                continue
            looked[(now.worth, now.wished)] = True
            steps = self.onwards(now, 0)
            if steps is not None:
                left.extend(steps[::-1])
                continue
            found[(now.worth, tuple([(many, number) for many, number, barred in now.wished]))] = now
            if is_one_enough:
                break
        return list(found.values())
