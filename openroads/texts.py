"""Books as texts, and texts as books."""

from openroads.atoms import is_name, is_unknown, is_word
from openroads.errors import BadText
from openroads.formtexts import text_form
from openroads.letters import Letter
from openroads.roles import Book, Role

# Where in a text the lines with each head stand: 0 is ahead of all roles.
PLACES = {
    "role": 1,
    "knows": 1,
    "fresh": 2,
    "await": 3,
    "send": 3,
    "claim": 3,
    "heap": 4,
}


def role_lines(role):
    """The lines of a role."""
    lines = [" ".join(["role", role.title, *role.params])]
    lines.extend(["knows " + letter.written() for letter in role.knows])
    lines.extend(["fresh " + name for name in role.fresh])
    lines.extend([" ".join([*row[:-1], row[-1].written()]) for row in role.rows])
    return lines


def book_text(book):
    """The text of a book."""
    lines = [line for role in book.roles for line in role_lines(role)]
    lines.extend(["heap " + letter.written() for letter in book.known])
    return "".join([line + "\n" for line in lines])


def letter_of(text):
    """The letter with a text, or None."""
    form = text_form(text)
    return None if form is None else Letter(form)


def line_told(line):
    """The head of a line and the list of what it tells behind it, or None if the line has none of the forms."""
    head, gap, rest = line.partition(" ")
    if head == "role":
        found = rest.split(" ")
        is_right = is_word(found[0]) and all([is_unknown(param) for param in found[1:]])
    elif head == "fresh":
        found = [rest]
        is_right = is_name(rest)
    elif head == "claim":
        word, space, text = rest.partition(" ")
        found = [word, letter_of(text)]
        is_right = is_word(word) and found[1] is not None
    else:
        found = [letter_of(rest)]
        is_right = head in PLACES and found[0] is not None
    return (head, found) if is_right else None


def can_stand(head, place):
    """Whether a line with a head can stand behind a line of a place."""
    if head == "role":
        return place < PLACES["heap"]
    return head == "heap" or 1 <= place <= PLACES[head]


def told_lines(text):
    """What the lines of a text tell; BadText with the first line that cannot stand there."""
    lines = text.split("\n")
    last = lines.pop()
    found = []
    place = 0
    for index, line in enumerate(lines):
        told = line_told(line)
        if told is None or not can_stand(told[0], place):
            raise BadText(index + 1)
        place = PLACES[told[0]]
        found.append(told)
    if last != "":
        raise BadText(len(lines) + 1)
    return found


def role_of(lines):
    """The role with some lines; the errors of Role as they are."""
    knows = [told[0] for head, told in lines if head == "knows"]
    fresh = [told[0] for head, told in lines if head == "fresh"]
    rows = [(head, *told) for head, told in lines if PLACES[head] == PLACES["await"]]
    title, params = lines[0][1][0], lines[0][1][1:]
    return Role(title, params, knows, fresh, rows)


def book_read(text):
    """The book with a text; BadText with the first line that cannot stand there, then the errors of Role and Book."""
    parted = []
    known = []
    for line in told_lines(text):
        if line[0] == "heap":
            known.append(line[1][0])
        elif line[0] == "role":
            parted.append([line])
        else:
            parted[-1].append(line)
    return Book([role_of(lines) for lines in parted], known)
