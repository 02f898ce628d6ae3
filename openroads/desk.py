"""A desk at which a world is told what to do."""

from openroads.atoms import DIGITS, made_of
from openroads.errors import BadCommand, BadText, NoMatch, NoSitting, NotHeld, NotPlain, NotWaiting
from openroads.letters import Letter
from openroads.seeking import seek
from openroads.worlds import World


def letter_of(text):
    """The letter with a text; BadCommand if there is none."""
    try:
        return Letter.read(text)
    except BadText as e:
        raise BadCommand() from e


def plain_letter(text):
    """The letter with a text; BadCommand if there is none, NotPlain if it has an unknown."""
    letter = letter_of(text)
    if len(letter.unknowns()) > 0:
        raise NotPlain()
    return letter


class Desk:
    """Holds a world of a book and some sittings."""

    def __init__(self, book, sittings):
        self.world = World(book, sittings)
        self.book = book
        self.sittings = [(title, dict(filling)) for title, filling in sittings]

    def tell(self, line):
        """The lines that answer a command."""
        try:
            return self.answered(line)
        except BadCommand:
            return ["refused BadCommand"]
        except NoSitting:
            return ["refused NoSitting"]
        except NotPlain:
            return ["refused NotPlain"]
        except NotWaiting:
            return ["refused NotWaiting"]
        except NotHeld:
            return ["refused NotHeld"]
        except NoMatch:
            return ["refused NoMatch"]

    def answered(self, line):
        """The lines that answer a command; the errors as they are."""
        head, gap, rest = line.partition(" ")
        if gap == "":
            return self.answered_alone(line)
        if head == "give":
            number, space, text = rest.partition(" ")
            return self.gave(self.number_of(number), letter_of(text))
        if head == "wants":
            awaited = self.world.wants(self.number_of(rest))
            return ["ended" if awaited is None else awaited.written()]
        if head == "holds":
            return ["yes" if plain_letter(rest) in self.world.heap() else "no"]
        if head == "seek":
            deeds = seek(self.book, self.sittings, ("holds", plain_letter(rest)))
            return ["never" if deeds is None else f"gives {len(deeds)}"]
        raise BadCommand()

    def answered_alone(self, line):
        """The lines that answer a command of one token."""
        if line == "undo":
            return ["undone" if self.world.undo() else "nothing"]
        if line == "heap":
            return [letter.written() for letter in self.world.heap().letters()]
        if line == "parts":
            return [letter.written() for letter in self.world.heap().parts()]
        if line == "claims":
            return [f"{sitting} {word} {letter.written()}" for word, letter, sitting in self.world.claims()]
        raise BadCommand()

    def gave(self, sitting, letter):
        """The lines that answer a give."""
        lines = ["sent " + sent.written() for sent in self.world.give(sitting, letter)]
        lines.append("ended" if self.world.wants(sitting) is None else "waits")
        return lines

    def number_of(self, text):
        """The number of a sitting with some digits, or one that no sitting has; BadCommand if they are no number."""
        if text == "" or not made_of(text, DIGITS) or (text[0] == "0" and text != "0"):
            raise BadCommand()
        # The digits of a number that a sitting has are few; others can be too many to be counted with.
        numbers = {str(number): number for number in range(len(self.sittings))}
        return numbers.get(text, len(self.sittings))
