"""Words, names and unknowns, and their texts."""

# The string methods that ask for letters and digits let in those of other scripts, too.
SMALL = "abcdefghijklmnopqrstuvwxyz"
CAPITALS = "ABCDEFGHIJKLMNOPQRSTUVWXYZ"
DIGITS = "0123456789"

ATOMS = ("word", "name", "unknown")


def made_of(text, signs):
    """Whether a text has no other signs than these."""
    return all([sign in signs for sign in text])


def is_word(text):
    """Whether a text is a word."""
    return 1 <= len(text) <= 8 and made_of(text, SMALL)


def is_name(text):
    """Whether a text is a name."""
    capitals = text.rstrip(DIGITS)
    return 1 <= len(capitals) and len(text) <= 8 and made_of(capitals, CAPITALS)


def is_unknown(text):
    """Whether a text is an unknown, which is told without its question mark."""
    return 1 <= len(text) <= 7 and made_of(text, SMALL)


def is_atom(kind, text):
    """Whether any object is the text of an atom of this kind, as it stands in a form."""
    if not isinstance(text, str):
        return False
    if kind == "word":
        return is_word(text)
    if kind == "name":
        return is_name(text)
    return is_unknown(text)


def atom_form(text):
    """The form of the atom that is written so, or None."""
    if is_word(text):
        return ("word", text)
    if is_name(text):
        return ("name", text)
    if text.startswith("?") and is_unknown(text[1:]):
        return ("unknown", text[1:])
    return None


def atom_text(form):
    """How the atom with this form is written."""
    if form[0] == "unknown":
        return "?" + form[1]
    return form[1]
