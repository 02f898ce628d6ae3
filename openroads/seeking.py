"""Whether a goal is reached, and how it is reached with as few deeds as can be."""

from openroads.atoms import SMALL
from openroads.courses import first_course, followers, scripts_of
from openroads.errors import BadGoal
from openroads.goals import is_goal, reaching
from openroads.letters import Letter
from openroads.solving import Solver
from openroads.tables import Stock, formed
from openroads.worlds import World


def reached(world, goal):
    """Whether a goal holds in a world; BadGoal for an object that is none."""
    if not is_goal(goal):
        raise BadGoal()
    if goal[0] == "holds":
        return goal[1] in world.heap()
    claims = world.claims()
    for done in claims:
        words = [word for word, letter, sitting in claims if letter == done[1]]
        if words.count(goal[1]) > words.count(goal[2]):
            return True
    return False


def word_with(number):
    """The word with a number; no two numbers have the same."""
    text = SMALL[number % 26]
    rest = number // 26
    while rest > 0:
        text = text + SMALL[rest % 26]
        rest = rest // 26
    return text


def new_words(stock, many):
    """The numbers of some words that stand nowhere in a stock so far."""
    found = []
    turn = 0
    while len(found) < many:
        line = ("word", word_with(turn))
        turn += 1
        if line not in stock.numbers:
            found.append(stock.noted(line))
    return found


def letters_told(stock, system):
    """The letters that the unknowns become in a system with wishes for unknowns alone: new words where any will do."""
    words = new_words(stock, len(stock.open_ends))
    numbers = stock.replaced(list(system.worth), dict(list(zip(stock.open_ends, words))))
    forms = formed(stock.lines)
    return {forms[unknown][1]: Letter(forms[number]) for unknown, number in zip(stock.open_ends, numbers)}


def deeds_of(world, order, letters):
    """The deeds by which some sittings of a new world are given what they await, their unknowns filled by letters."""
    deeds = []
    for sitting in order:
        awaited = world.wants(sitting)
        letter = awaited.filled({unknown: letters[f"{unknown}{sitting}"] for unknown in awaited.unknowns()})
        deeds.append((sitting, world.heap().recipe(letter)))
        world.give(sitting, letter)
    return deeds


def seek(book, sittings, goal):
    """Deeds, as few as can be, at whose end a goal holds in a new world, or None; BadSitting, then BadGoal."""
    world = World(book, sittings)
    if not is_goal(goal):
        raise BadGoal()
    stock = Stock()
    scripts = scripts_of(stock, book, sittings)
    solver = Solver(stock)
    courses = [first_course(stock, book.known, scripts)]
    while courses:
        for course in courses:
            found = reaching(solver, course, goal)
            if found is not None:
                return deeds_of(world, course.order, letters_told(stock, found))
        courses = [after for course in courses for after in followers(solver, scripts, course)]
    return None
