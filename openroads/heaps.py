"""Heaps: what the stranger has."""

from openroads.errors import BadHeap, BadRecipe, NoWay
from openroads.letters import Letter
from openroads.making import can_make, opened, place_among, smallest_recipe
from openroads.recipes import INNER, Bench, in_order
from openroads.tables import formed


def first_not_plain(letters):
    """The index of the first letter that has an unknown, or None."""
    for index, letter in enumerate(letters):
        if len(letter.unknowns()) > 0:
            return index
    return None


def ascending(forms):
    """Some forms in ascending order. (Where heaps are compared too, sorted is only for numbers and texts.)"""
    found = []
    for form in forms:
        found.insert(place_among(found, form), form)
    return found


class Heap:
    """A list of plain letters."""

    def __init__(self, letters):
        index = first_not_plain(letters)
        if index is not None:
            raise BadHeap(index)
        self.held = list(letters)

    def letters(self):
        """The list of the letters."""
        return list(self.held)

    def parts(self):
        """The ascending list of the opened parts, each once."""
        return [Letter(form) for form in ascending(opened([letter.form() for letter in self.held]))]

    def recipe(self, letter):
        """A recipe that makes a letter, or None."""
        return smallest_recipe([held.form() for held in self.held], letter.form())

    def run(self, recipe):
        """The letter that a recipe makes; BadRecipe, or NoWay with the first part of it that does not work."""
        parts = in_order(recipe)
        if parts is None:
            raise BadRecipe()
        bench = Bench([letter.form() for letter in self.held])
        made = []
        for part in parts:
            if part[0] in INNER:
                many = INNER[part[0]]
                number = bench.worked(part[0], made[-many:])
                del made[-many:]
            else:
                number = bench.taken(part[0], part[1])
            if number is None:
                raise NoWay(part)
            made.append(number)
        return Letter(formed(bench.lines)[made.pop()])

    def __add__(self, other):
        """A new heap with one more letter at its end; BadHeap if it is not plain."""
        if not isinstance(other, Letter):
            return NotImplemented
        return Heap([*self.held, other])

    def __iadd__(self, other):
        """Puts a letter at the end of this heap itself; BadHeap if it is not plain."""
        if not isinstance(other, Letter):
            return NotImplemented
        if first_not_plain([other]) is not None:
            raise BadHeap(len(self.held))
        self.held.append(other)
        return self

    def __getitem__(self, at):
        """The letter at a number."""
        # A negative number must not count from the end.
        if at < 0:
            raise IndexError("no letter has a negative number")
        return self.held[at]

    def __iter__(self):
        raise TypeError("a heap is not gone through; letters() is its list")

    def __len__(self):
        """How many letters there are."""
        return len(self.held)

    def __contains__(self, x):
        """Whether a letter can be made."""
        return isinstance(x, Letter) and can_make([letter.form() for letter in self.held], x.form())

    def __eq__(self, other):
        return isinstance(other, Heap) and self.held == other.held
