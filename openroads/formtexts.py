"""Forms as texts, and texts as forms."""

from openroads.atoms import ATOMS, atom_form, atom_text
from openroads.forms import first_fault

# What stands ahead of the inner letters of each kind that is no atom.
HEADS = {
    "pair(": "pair",
    "seal(": "seal",
    "lock(": "lock",
    "mark(": "mark",
    "open(": "open",
    "own(": "own",
}


def form_text(form):
    """How the letter with this form is written."""
    pieces = []
    left = [form]
    while left:
        part = left.pop()
        if isinstance(part, str):
            pieces.append(part)
        elif part[0] in ATOMS:
            pieces.append(atom_text(part))
        else:
            left.append(")")
            if len(part) == 3:
                left.extend([part[2], ", "])
            left.extend([part[1], part[0] + "("])
    return "".join(pieces)


def tokens(text):
    """The pieces of a text: heads with their brackets, atoms, commas with their spaces, closing brackets."""
    # A line feed stands in the text of no letter, so it can part the pieces.
    parted = text.replace("(", "(\n").replace(", ", "\n, \n").replace(")", "\n)")
    return parted.split("\n")


def text_form(text):
    """The form of the letter with this text, or None."""
    if "\n" in text:
        return None
    # A frame for the whole, and one for each bracket that is not closed yet: the kind and the letters so far.
    frames = [[]]
    is_wanted = True
    for token in tokens(text):
        atom = atom_form(token)
        if is_wanted and atom is not None:
            frames[-1].append(atom)
            is_wanted = False
        elif is_wanted and token in HEADS:
            frames.append([HEADS[token]])
        elif not is_wanted and token == ", ":
            is_wanted = True
        elif not is_wanted and token == ")" and len(frames) > 1:
            ended = tuple(frames.pop())
            frames[-1].append(ended)
        else:
            return None
    if is_wanted or len(frames) != 1 or len(frames[0]) != 1:
        return None
    # How many inner letters there are, and what locks, is left to this.
    return frames[0][0] if first_fault(frames[0][0]) is None else None
