"""How sittings go on when the letters that they are given are not known yet.

A SCRIPT has the rows of a sitting, their letters told by numbers of a stock. The unknowns of the sitting with the
number k have this number behind them, so that no two sittings share one.
"""

from openroads.forms import exchanged
from openroads.sittings import rows_of
from openroads.solving import System


class Course:
    """Gives in some order; a course never changes.

    order are the sittings that were given something, stands has for each sitting the index of the row at which it is,
    claimed are the words and letters of the claims so far, and the system is what the letters that are given grant.
    """

    def __init__(self, order, stands, claimed, system):
        self.order = order
        self.stands = stands
        self.claimed = claimed
        self.system = system


def script_of(stock, role, filling, number):
    """The script of a role in the sitting with a number."""
    script = []
    for row in rows_of(role, number):
        forms = {("unknown", unknown): ("unknown", f"{unknown}{number}") for unknown in row[-1].unknowns()}
        for param in filling:
            forms[("unknown", param)] = filling[param].form()
        script.append((*row[:-1], stock.put(exchanged(row[-1].form(), forms))))
    return script


def scripts_of(stock, book, sittings):
    """The scripts of all sittings."""
    roles = {role.title: role for role in book.roles}
    return [script_of(stock, roles[title], filling, number) for number, (title, filling) in enumerate(sittings)]


def next_await(script, stand):
    """The index of the next await from a row on, or that behind all rows."""
    while stand < len(script) and script[stand][0] != "await":
        stand += 1
    return stand


def became(stock, system, numbers):
    """What some forms have become in a system."""
    changes = {unknown: system.worth[at] for at, unknown in enumerate(stock.open_ends) if system.worth[at] != unknown}
    return stock.replaced(numbers, changes)


def wishing(stock, system, number):
    """The system with one more wish: that a form can be made of the whole pile."""
    wish = (len(system.pile), became(stock, system, [number])[0], ())
    return System(system.pile, (*system.wished, wish), system.worth)


def heard(stock, system, rows):
    """The system in whose pile are the letters, too, that are sent in some rows."""
    sent = became(stock, system, [row[1] for row in rows if row[0] == "send"])
    return System((*system.pile, *sent), system.wished, system.worth)


def claims_in(rows):
    """The words and letters of the claims in some rows."""
    return [(row[1], row[2]) for row in rows if row[0] == "claim"]


def first_course(stock, known, scripts):
    """The course without any give, if some letters are known at first."""
    stands = [next_await(script, 0) for script in scripts]
    system = System(tuple([stock.put(letter.form()) for letter in known]), (), tuple(stock.open_ends))
    claimed = []
    for script, stand in zip(scripts, stands):
        system = heard(stock, system, script[:stand])
        claimed.extend(claims_in(script[:stand]))
    return Course((), tuple(stands), tuple(claimed), system)


def given(solver, script, course, sitting):
    """The course with one more give, to a sitting that waits, or None if nothing can be given to it."""
    stand = course.stands[sitting]
    system = solver.forced(wishing(solver.stock, course.system, script[stand][1]))
    if system is None or len(solver.solutions(system, True)) == 0:
        return None
    after = next_await(script, stand + 1)
    rows = script[stand + 1:after]
    stands = (*course.stands[:sitting], after, *course.stands[sitting + 1:])
    claimed = (*course.claimed, *claims_in(rows))
    return Course((*course.order, sitting), stands, claimed, heard(solver.stock, system, rows))


def followers(solver, scripts, course):
    """The courses with one more give."""
    found = []
    for sitting, script in enumerate(scripts):
        if course.stands[sitting] < len(script):
            after = given(solver, script, course, sitting)
            if after is not None:
                found.append(after)
    return found
