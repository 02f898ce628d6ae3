"""What DOC.md says of seeking, done in the plainest way, for small sittings: to hold the program against."""

import oracle
from openroads.errors import BadRole, NotFit
from openroads.letters import Letter
from openroads.roles import Book, Role
from openroads.seeking import reached
from openroads.worlds import World
from wishing import word_fillings

read = Letter.read
ENDS = "qrst"


def rows_in_sittings(book, sittings):
    """The letters of all rows in their sittings; the unknowns have a letter behind them that tells the sitting."""
    roles = {role.title: role for role in book.roles}
    found = []
    for k, (title, filling) in enumerate(sittings):
        role = roles[title]
        for row in role.rows:
            marked = {name: Letter("?" + name + ENDS[k]) for name in row[-1].unknowns()}
            found.append(renamed(row[-1], {name: name + str(k) for name in role.fresh}).filled({**marked, **filling}))
    return found


def renamed(letter, names):
    """The letter with other atoms instead of some words and names."""
    def walk(form):
        if form[0] in ("name", "word"):
            return (form[0], names.get(form[1], form[1]))
        return form if form[0] == "unknown" else (form[0], *[walk(inner) for inner in form[1:]])
    return Letter.of(walk(letter.form()))


def deeds_with(book, sittings, goal, filling, most):
    """With how few gives a goal is reached with this filling of all unknowns, or None if not with up to so many."""
    fillings = [{name[:-1]: letter for name, letter in filling.items() if name[-1] == end} for end in ENDS]
    worlds = [World(book, sittings)]
    for many in range(most + 1):
        if any(reached(world, goal) for world in worlds):
            return many
        after = []
        for world in worlds:
            for k in range(len(sittings)):
                letter = world.wants(k) and world.wants(k).filled(fillings[k])
                if letter is not None and letter in world.heap():
                    after.append(world.twin())
                    after[-1].give(k, letter)
        worlds = after
    return None


def awaits_in(book, sittings):
    roles = {role.title: role for role in book.roles}
    return sum(row[0] == "await" for title, filling in sittings for row in roles[title].rows)


def fewest_deeds(book, sittings, goal, limit):
    """With how few deeds a goal is reached by one of the fillings of point 27, or None; "many" if these are too many."""
    letters = rows_in_sittings(book, sittings)
    unknowns = sorted({unknown for letter in letters for unknown in letter.unknowns()})
    letters += book.known + ([goal[1]] if goal[0] == "holds" else [])
    parts = {part for letter in letters for part in oracle.parts_of(letter.form()) if part[0] != "unknown"}
    if (len(parts) + len(unknowns)) ** len(unknowns) > limit:
        return "many"
    most = awaits_in(book, sittings)
    found = None
    for filling in word_fillings(unknowns, letters):
        many = deeds_with(book, sittings, goal, filling, most)
        if many is not None:
            found, most = many, many - 1
        if most < 0:
            break
    return found


class Casting:
    """Draws small books of fit roles, sittings and goals by chance."""

    def __init__(self, chance):
        self.chance = chance

    def atom(self, unknowns, names):
        turn = self.chance.random()
        if unknowns and turn < 0.6:
            return ("unknown", self.chance.choice(unknowns))
        return ("word", "a") if turn < 0.7 else ("name", self.chance.choice(names))

    def body(self, unknowns, names):
        turn = self.chance.random()
        if turn < 0.35:
            return self.atom(unknowns, names)
        if turn < 0.6:
            return ("pair", self.atom(unknowns, names), self.atom(unknowns, names))
        return (self.chance.choice(["mark", "mark", "open", "own"]), self.atom(unknowns, names))

    def letter(self, unknowns, names):
        turn, body = self.chance.random(), self.body(unknowns, names)
        if turn < 0.45:
            return ("seal", body, ("name", "K"))
        if turn < 0.7:
            return ("lock", body, (self.chance.choice(["open", "own"]), ("name", "A")))
        return ("pair", self.atom(unknowns, names), ("seal", body, ("name", "K"))) if turn < 0.8 else body

    def rows(self, awaits, fresh):
        names, unknowns, rows = ["K", "A"] + fresh, [], []
        for turn in range(awaits):
            if self.chance.random() < 0.5:
                rows.append(("send", self.letter(unknowns, names)))
            rows.append(("await", self.letter(unknowns + [self.chance.choice("xy")], names)))
            unknowns = sorted(set(unknowns) | {part[1] for part in oracle.parts_of(rows[-1][1])
                                               if part[0] == "unknown"})
            if self.chance.random() < 0.6:
                rows.append(("claim", self.chance.choice(["done", "begun"]), self.body(unknowns, names)))
        rows.append(("send", self.letter(unknowns, names)))
        if self.chance.random() < 0.6:
            rows.insert(self.chance.choice([0, len(rows)]), ("claim", "begun", ("name", self.chance.choice(names))))
        return rows

    def role(self, title, awaits):
        """A role that is fit; most that are drawn are not."""
        knows = [Letter("K"), -Letter("A"), Letter("A")]
        while True:
            fresh = ["N"] if self.chance.random() < 0.6 else []
            rows = [(*row[:-1], Letter.of(row[-1])) for row in self.rows(awaits, fresh)]
            try:
                return Role(title, [], knows, fresh, rows)
            except (BadRole, NotFit):
                pass

    def goal(self, letters):
        """A goal; one that is about some letters where it is about a letter."""
        if self.chance.random() < 0.4:
            return ("lone", "done", "begun")
        letter = self.chance.choice(letters)
        filled = letter.filled({unknown: self.chance.choice([read("P"), read("a"), read("mark(P)"), read("N0")])
                                for unknown in letter.unknowns()})
        return ("holds", Letter.of(self.chance.choice(oracle.parts_of(filled.form()))))

    def story(self):
        """A book, sittings, and a goal that is not reached at the beginning."""
        while True:
            awaits = self.chance.choice([(1, 1), (2, 1), (1, 2), (2,), (3,), (1, 1, 1)])
            roles = [self.role("abc"[at] + "role", many) for at, many in enumerate(awaits)]
            if self.chance.random() < 0.3:
                roles = roles[:1] * len(roles)
            known = [read("seal(P, K)")] + [Letter.of(self.letter([], ["P", "A", "K"]))
                                            for turn in range(self.chance.randint(0, 2))]
            book = Book(list({role.title: role for role in roles}.values()), known)
            sittings = [(role.title, {}) for role in roles]
            goal = self.goal(rows_in_sittings(book, sittings))
            if awaits_in(book, sittings) <= 3 and not reached(World(book, sittings), goal):
                return book, sittings, goal
