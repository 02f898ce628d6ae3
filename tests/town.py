"""People who act in the tests of worlds, and how all of a world is read off."""

from openroads.errors import NoSitting
from openroads.letters import Letter
from openroads.roles import Book, Role
from openroads.worlds import World

read = Letter.read


def filling_of(**told):
    return {unknown: read(text) for unknown, text in told.items()}


def row(head, text, word=None):
    return (head, read(text)) if word is None else (head, word, read(text))


# Ann sends a name to somebody, who sends it back with one of his own.
ANN = Role("ann", ["me", "you"], [read("own(?me)")], ["N"], [
    row("send", "lock(pair(N, ?me), open(?you))"),
    row("claim", "pair(N, ?you)", "begun"),
    row("await", "lock(pair(N, ?x), open(?me))"),
    row("send", "lock(?x, open(?you))"),
    row("claim", "pair(N, ?x)", "done"),
])
BOB = Role("bob", ["me"], [read("own(?me)")], ["N"], [
    row("await", "lock(pair(?x, ?you), open(?me))"),
    row("claim", "?you", "begun"),
    row("send", "lock(pair(?x, N), open(?you))"),
    row("await", "lock(N, open(?me))"),
    row("claim", "pair(?x, N)", "done"),
    row("send", "seal(b, N)"),
])
EVE = Role("eve", [], [], [], [row("send", "a"), row("claim", "a", "done"), row("send", "b"), row("claim", "b", "done")])
ECHO = Role("echo", ["k"], [], [], [row("await", "?x"), row("await", "pair(?x, ?y)"), row("send", "pair(?y, ?k)"),
                                    row("send", "?x"), row("await", "mark(?y)")])
BOOK = Book([ANN, BOB, EVE, ECHO], [read("A"), read("B"), read("C"), read("own(C)")])


def world_of(*sittings):
    return World(BOOK, list(sittings))


def of_two():
    return world_of(("ann", filling_of(me="A", you="B")), ("bob", filling_of(me="B")))


def seen(world):
    """All that can be read off a world of at most four sittings."""
    sittings = []
    for k in range(4):
        try:
            sittings.append((world.wants(k), dict(world.filling(k))))
        except NoSitting:
            break
    return (world.heap().letters(), list(world.claims()), list(world.gives()), sittings)
