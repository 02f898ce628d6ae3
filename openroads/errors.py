"""The errors of the package. Each keeps what it was made with as attributes."""


class RoadError(ValueError):
    """What every error of the package is."""


class BadAtom(RoadError):
    """A text that is no word, no name and no unknown."""

    def __init__(self, text):
        self.text = text


class BadForm(RoadError):
    """An object that is no form; the path leads to the first part that is none."""

    def __init__(self, path):
        self.path = path


class BadKey(RoadError):
    """A letter that locks nothing, as it is neither an open nor an own key."""

    def __init__(self, key):
        self.key = key


class BadText(RoadError):
    """A text that cannot be read; the line, counted from 1, is the first that cannot stand there."""

    def __init__(self, line):
        self.line = line


class BadHeap(RoadError):
    """A letter of a heap that is not plain."""

    def __init__(self, index):
        self.index = index


class BadRecipe(RoadError):
    """An object that is no recipe."""


class NoWay(RoadError):
    """A recipe that does not work; the step is the first part of it that does not."""

    def __init__(self, step):
        self.step = step


class BadHeaps(RoadError):
    """Two heaps with unlike numbers of letters."""


class BadRole(RoadError):
    """A role with something wrong in a field."""

    def __init__(self, field):
        self.field = field


class NotFit(RoadError):
    """A row of a role that its taker is not able to do."""

    def __init__(self, index):
        self.index = index


class BadBook(RoadError):
    """A book with something wrong in a field."""

    def __init__(self, field):
        self.field = field


class BadSitting(RoadError):
    """A sitting that does not go with its book."""

    def __init__(self, index):
        self.index = index


class NoSitting(RoadError):
    """The number of no sitting."""

    def __init__(self, number):
        self.number = number


class NotPlain(RoadError):
    """A letter that has an unknown where there must be none."""


class NotWaiting(RoadError):
    """A sitting that has ended."""

    def __init__(self, number):
        self.number = number


class NotHeld(RoadError):
    """A letter that cannot be made of the heap."""


class NoMatch(RoadError):
    """A letter that is not the awaited one."""


class NotDone(RoadError):
    """A list of deeds; the place is that of the first one that cannot be done."""

    def __init__(self, place):
        self.place = place


class BadFilling(RoadError):
    """A filling that does not fill all unknowns of some wishes by plain letters."""


class BadWishes(RoadError):
    """A list of wishes that is not orderly."""

    def __init__(self, index):
        self.index = index


class BadGoal(RoadError):
    """An object that is no goal."""


class BadCommand(RoadError):
    """A line that is no command."""
