"""Worlds: where some people act by their roles, and the stranger gives them letters."""

from openroads.errors import NoMatch, NoSitting, NotDone, NotHeld, NotPlain, NotWaiting, RoadError
from openroads.fillings import followed, match
from openroads.heaps import Heap
from openroads.roles import Book
from openroads.sittings import check, rows_of


class Moment:
    """How a world is between two gives; a moment never changes.

    piled are the letters of the heap, claimed the claims, given the gives; for each sitting, places has the index of
    the row at which it is, and fillings what its unknowns are.
    """

    def __init__(self, piled, claimed, given, places, fillings):
        self.piled = piled
        self.claimed = claimed
        self.given = given
        self.places = places
        self.fillings = fillings


def changed(things, at, thing):
    """A list with another thing at an index."""
    return [*things[:at], thing, *things[at + 1:]]


def moved(moment, sitting, rows, place):
    """The moment after a sitting has done its rows from a place on up to its next await."""
    piled = list(moment.piled)
    claimed = list(moment.claimed)
    while place < len(rows) and rows[place][0] != "await":
        letter = rows[place][-1].filled(moment.fillings[sitting])
        if rows[place][0] == "send":
            piled.append(letter)
        else:
            claimed.append((rows[place][1], letter, sitting))
        place += 1
    return Moment(piled, claimed, moment.given, changed(moment.places, sitting, place), moment.fillings)


class World:
    """Where the sittings of a book are held."""

    def __init__(self, book, sittings):
        check(book, sittings)
        roles = {role.title: role for role in book.roles}
        # The rows of each sitting; they never change, so that twins may share them.
        self.scripts = [rows_of(roles[title], number) for number, (title, filling) in enumerate(sittings)]
        fillings = [dict(filling) for title, filling in sittings]
        moment = Moment(book.known, [], [], [0 for filling in fillings], fillings)
        for sitting, rows in enumerate(self.scripts):
            moment = moved(moment, sitting, rows, 0)
        # One moment for the beginning, and one for each give that can be taken back. The list itself never changes,
        # so who has kept it can put it back.
        self.moments = [moment]

    def give(self, sitting, letter):
        """Gives a sitting a letter; the list of the letters that it sent then."""
        awaited = self.wants(sitting)
        if len(letter.unknowns()) > 0:
            raise NotPlain()
        if awaited is None:
            raise NotWaiting(sitting)
        if letter not in self.heap():
            raise NotHeld()
        found = match(awaited, letter)
        if found is None:
            raise NoMatch()
        now = self.moments[-1]
        fillings = changed(now.fillings, sitting, followed(now.fillings[sitting], found))
        given = Moment(now.piled, now.claimed, [*now.given, (sitting, letter)], now.places, fillings)
        after = moved(given, sitting, self.scripts[sitting], now.places[sitting] + 1)
        self.moments = [*self.moments, after]
        return after.piled[len(now.piled):]

    def perform(self, deeds):
        """Does a list of deeds; NotDone with the index of the first one that raises an error, and all is as before."""
        kept = self.moments
        for place, (sitting, recipe) in enumerate(deeds):
            try:
                self.give(sitting, self.heap().run(recipe))
            except RoadError as e:
                self.moments = kept
                raise NotDone(place) from e

    def heap(self):
        """What the stranger has, as a new heap."""
        return Heap(self.moments[-1].piled)

    def wants(self, sitting):
        """The letter that a sitting awaits, with what is known of it, or None if the sitting has ended."""
        filling = self.filling(sitting)
        rows = self.scripts[sitting]
        place = self.moments[-1].places[sitting]
        return rows[place][-1].filled(filling) if place < len(rows) else None

    def filling(self, sitting):
        """What the params and unknowns of a sitting are so far."""
        if not 0 <= sitting < len(self.scripts):
            raise NoSitting(sitting)
        return dict(self.moments[-1].fillings[sitting])

    def claims(self):
        """The claims so far."""
        return list(self.moments[-1].claimed)

    def gives(self):
        """The gives so far, without those that were taken back."""
        return list(self.moments[-1].given)

    def twin(self):
        """Another world that is as this one is."""
        other = World(Book([], []), [])
        other.scripts = self.scripts
        other.moments = self.moments
        return other

    def undo(self):
        """Takes back the last give; whether there was one."""
        if len(self.moments) == 1:
            return False
        self.moments = self.moments[:-1]
        return True

    def trial(self, work):
        """What a function returns that is called with this world; behind it the world is as it was before."""
        kept = self.moments
        try:
            return work(self)
        finally:
            self.moments = kept
