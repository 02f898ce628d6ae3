"""Roles, and books of them."""

from openroads.atoms import DIGITS, is_name, is_unknown, is_word
from openroads.errors import BadBook, BadRole, NotFit
from openroads.fitness import first_not_fit


def is_without_digits(letter):
    """Whether no name in a letter has a digit."""
    return all([name[-1] not in DIGITS for name in letter.names()])


def is_settled(letter):
    """Whether a letter is plain, and no name in it has a digit."""
    return len(letter.unknowns()) == 0 and is_without_digits(letter)


def are_params(params):
    """Whether some strings are unknowns, each once."""
    return all([is_unknown(param) for param in params]) and len(set(params)) == len(params)


def are_known(letters, params):
    """Whether somebody can have some letters who takes a role with these params."""
    unknowns = [unknown for letter in letters for unknown in letter.unknowns()]
    return all([unknown in params for unknown in unknowns]) and all([is_without_digits(letter) for letter in letters])


def is_fresh(name, knows):
    """Whether a string is a name that can be made up anew by who has some letters."""
    # There must be room for the number of a sitting.
    if not is_name(name) or name[-1] in DIGITS or len(name) == 8:
        return False
    return all([name not in letter.names() for letter in knows])


def are_fresh(fresh, knows):
    """Whether some strings are names that can be made up anew by who has some letters, each once."""
    return all([is_fresh(name, knows) for name in fresh]) and len(set(fresh)) == len(fresh)


def is_row(row):
    """Whether nothing is wrong with a row by itself."""
    return is_without_digits(row[-1]) and (row[0] != "claim" or is_word(row[1]))


def first_wrong(title, params, knows, fresh, rows):
    """The first field of a role in which something is wrong, or None."""
    if not is_word(title):
        return "title"
    if not are_params(params):
        return "params"
    if not are_known(knows, params):
        return "knows"
    if not are_fresh(fresh, knows):
        return "fresh"
    if not all([is_row(row) for row in rows]):
        return "rows"
    return None


class Role:
    """What somebody does. The lists that can be read off it are new ones each time."""

    def __init__(self, title, params, knows, fresh, rows):
        field = first_wrong(title, params, knows, fresh, rows)
        if field is not None:
            raise BadRole(field)
        index = first_not_fit(params, knows, fresh, rows)
        if index is not None:
            raise NotFit(index)
        self.title = title
        self.lists = (tuple(params), tuple(knows), tuple(fresh), tuple(rows))

    @property
    def params(self):
        """The unknowns that are filled when the role is taken."""
        return list(self.lists[0])

    @property
    def knows(self):
        """The letters that whoever takes the role has."""
        return list(self.lists[1])

    @property
    def fresh(self):
        """The names that are made up anew each time."""
        return list(self.lists[2])

    @property
    def rows(self):
        """What is done, row by row."""
        return list(self.lists[3])


class Book:
    """Roles with unlike titles, and the letters that the stranger has at first."""

    def __init__(self, roles, known):
        if len(set([role.title for role in roles])) < len(roles):
            raise BadBook("roles")
        if not all([is_settled(letter) for letter in known]):
            raise BadBook("known")
        self.lists = (tuple(roles), tuple(known))

    @property
    def roles(self):
        """The roles."""
        return list(self.lists[0])

    @property
    def known(self):
        """The letters that the stranger has at first."""
        return list(self.lists[1])
