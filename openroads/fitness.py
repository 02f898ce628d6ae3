"""Whether somebody is able to do the rows of a role."""

from openroads.making import can_make, is_seen_through, opened


def is_fit_await(held, form, new):
    """Whether who holds some forms finds the new unknowns in an awaited form, and can look into all the rest of it."""
    found = opened([*held, form])
    return all([unknown in found for unknown in new]) and is_seen_through([*held, *new], form)


def first_not_fit(params, knows, fresh, rows):
    """The index of the first row that is not fit, or None."""
    held = [("unknown", param) for param in params]
    held.extend([letter.form() for letter in knows])
    held.extend([("name", name) for name in fresh])
    for index, row in enumerate(rows):
        form = row[-1].form()
        if row[0] == "await":
            new = [("unknown", unknown) for unknown in row[-1].unknowns() if ("unknown", unknown) not in held]
            if not is_fit_await(held, form, new):
                return index
            held.extend(new)
        # A new unknown is not held, so nothing with it can be made.
        elif not can_make(held, form):
            return index
    return None
