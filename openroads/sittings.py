"""Sittings: who takes which role."""

from openroads.errors import BadSitting
from openroads.forms import exchanged
from openroads.letters import Letter
from openroads.roles import is_settled


def check(book, sittings):
    """BadSitting with the index of the first sitting that does not go with a book."""
    roles = {role.title: role for role in book.roles}
    for index, (title, filling) in enumerate(sittings):
        if title not in roles or not is_taken(roles[title], filling):
            raise BadSitting(index)


def is_taken(role, filling):
    """Whether a filling fills just the params of a role, and as it must."""
    params = role.params
    if len(filling) != len(params) or not all([param in filling for param in params]):
        return False
    return all([is_settled(filling[param]) for param in params])


def rows_of(role, number):
    """The rows of a role in the sitting with a number, but for the params, which are filled like other unknowns."""
    forms = {("name", name): ("name", f"{name}{number}") for name in role.fresh}
    return [(*row[:-1], Letter(exchanged(row[-1].form(), forms))) for row in role.rows]
