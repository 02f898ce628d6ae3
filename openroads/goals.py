"""Goals, and the courses by which they are reached.

What is told of a course here is a system with wishes for unknowns alone: the goal is reached at the end of the course
if these unknowns become new words, each another one.
"""

from openroads.atoms import is_word
from openroads.courses import became, wishing
from openroads.letters import Letter
from openroads.reaches import may_meet
from openroads.solving import equalled


def is_goal(thing):
    """Whether any object is a goal."""
    if not isinstance(thing, tuple) or len(thing) == 0 or not isinstance(thing[0], str):
        return False
    if thing[0] == "holds":
        return len(thing) == 2 and isinstance(thing[1], Letter) and len(thing[1].unknowns()) == 0
    if thing[0] == "lone":
        return len(thing) == 3 and all([isinstance(word, str) and is_word(word) for word in thing[1:]])
    return False


def holding(solver, course, letter):
    """A system of a course at whose end a letter can be made, or None."""
    number = solver.stock.put(letter.form())
    found = solver.solutions(wishing(solver.stock, course.system, number), True)
    return found[0] if found else None


def letters_of(stock, system, claimed, word):
    """What the letters that are claimed with a word have become in a system."""
    return became(stock, system, [number for told, number in claimed if told == word])


def more_equal(stock, system, letter, dones, many):
    """The systems in which one more of some letters is equal to a letter; none if not more than many can be."""
    others = [number for number in dones if number != letter and may_meet(stock, number, letter)]
    if dones.count(letter) + len(others) <= many:
        return []
    found = [equalled(stock, system, letter, number) for number in others]
    return [after for after in found if after is not None]


def lone_in(solver, course, claim, goal):
    """A system of a course in which a claimed letter is claimed as a goal says, or None."""
    stock = solver.stock
    left = [(course.system, None, None)]
    looked = {}
    while left:
        now = solver.behind(left.pop())
        if now is None or (now.worth, now.wished) in looked:
            continue
        looked[(now.worth, now.wished)] = True
        letter = became(stock, now, [claim])[0]
        dones = letters_of(stock, now, course.claimed, goal[1])
        begun = letters_of(stock, now, course.claimed, goal[2]).count(letter)
        if dones.count(letter) > begun:
            steps = solver.onwards(now, stock.masks[letter])
            if steps is None:
                # New words make no more letters equal.
                return now
        else:
            # What is equal stays so.
            steps = [(after, None, None) for after in more_equal(stock, now, letter, dones, begun)]
        left.extend(steps[::-1])
    return None


def lone(solver, course, goal):
    """A system of a course in which some letter is claimed as a goal says, or None."""
    if goal[1] == goal[2]:
        return None
    for claim in sorted(set([number for word, number in course.claimed if word == goal[1]])):
        found = lone_in(solver, course, claim, goal)
        if found is not None:
            return found
    return None


def reaching(solver, course, goal):
    """A system of a course at whose end a goal is reached, or None."""
    if goal[0] == "holds":
        return holding(solver, course, goal[1])
    return lone(solver, course, goal)
