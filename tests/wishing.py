"""What DOC.md says of wishes, done in the plainest way, for small wishes: to hold the program against."""

import itertools

import oracle
from openroads.fillings import followed, match
from openroads.letters import Letter

read = Letter.read


def wish(letters, letter):
    return ([read(text) for text in letters], read(letter))


def growing(*told):
    """A list of wishes; of each list only what comes behind the one before it is told."""
    letters, found = [], []
    for more, letter in told:
        letters = letters + [read(text) for text in more]
        found.append((list(letters), read(letter)))
    return found


def unknowns_of(wishes):
    return sorted({unknown for letters, letter in wishes for held in letters + [letter] for unknown in held.unknowns()})


def is_granted(wishes, filling):
    for letters, letter in wishes:
        wanted = letter.filled(filling).form()
        if wanted not in oracle.made_of([held.filled(filling).form() for held in letters], [wanted]):
            return False
    return True


def word_fillings(unknowns, letters):
    """The fillings of point 27: by words that stand nowhere, or by what parts of letters that are no unknowns become.

    Every one of them is there: each unknown is tried with each such part and with as many words as there are unknowns.
    """
    parts = {part for letter in letters for part in oracle.parts_of(letter.form()) if part[0] != "unknown"}
    choices = [Letter("new" + "abcdef"[at]) for at in range(len(unknowns))]
    choices += [Letter.of(part) for part in sorted(parts)]
    told = set()
    for chosen in itertools.product(choices, repeat=len(unknowns)):
        filling = dict(zip(unknowns, chosen))
        for unknown in unknowns:
            filling = {name: letter.filled(filling) for name, letter in filling.items()}
        texts = tuple(filling[unknown].written() for unknown in unknowns)
        if "?" not in "".join(texts) and texts not in told:
            told.add(texts)
            yield filling


def fillings_of(wishes):
    return word_fillings(unknowns_of(wishes), [held for letters, letter in wishes for held in letters + [letter]])


def agreeing(answer, filling):
    """The further filling with which an answer agrees with a filling, or None."""
    found, rest = answer
    further = {}
    for unknown, letter in filling.items():
        told = match(found[unknown], letter) if unknown in found else {unknown: letter}
        if told is None or any(further.setdefault(name, told[name]) != told[name] for name in told):
            return None
    return further


def is_told(answers, filling):
    """Whether some answers tell that a filling grants their wishes."""
    for answer in answers:
        further = agreeing(answer, filling)
        if further is not None and is_granted(answer[1], further):
            return True
    return False


def check_answer(case, wishes, answer):
    """Whether an answer is of the kind that point 24 tells; and that it grants the wishes, by a few further fillings."""
    filling, rest = answer
    unknowns = set(unknowns_of(wishes))
    case.assertLessEqual(set(filling), unknowns)
    before, told = [], set()
    for letters, letter in rest:
        case.assertEqual(letter.form()[0], "unknown")
        case.assertEqual(letters[:len(before)], before)
        case.assertLessEqual({name for held in letters for name in held.unknowns()}, told)
        told.add(letter.form()[1])
        before = letters
    for letter in list(filling.values()) + before + [letter for letters, letter in rest]:
        case.assertLessEqual(set(letter.unknowns()), unknowns - set(filling))
    free = sorted(unknowns - set(filling))
    for words in (["wa", "wb", "wc", "wd", "we", "wf"], ["w"] * 6):
        further = {unknown: Letter(word) for unknown, word in zip(free, words)}
        case.assertTrue(is_granted(rest, further))
        both = followed(filling, further)
        case.assertTrue(is_granted(wishes, {unknown: both[unknown] for unknown in unknowns}))


class Drawer:
    """Draws small orderly wishes by chance, out of few names, so that keys often go round in circles."""

    def __init__(self, chance, unknowns):
        self.chance = chance
        self.unknowns = unknowns

    def name(self):
        return ("name", self.chance.choice("KMN"))

    def key(self, known):
        turn = self.chance.random()
        if known and turn < 0.3:
            return ("unknown", self.chance.choice(known))
        if turn < 0.7:
            return self.name()
        if turn < 0.85:
            return ("mark", ("unknown", self.chance.choice(known)) if known and turn < 0.75 else self.name())
        return ("pair", self.name(), self.key(known))

    def letter(self, known, depth):
        turn = self.chance.random()
        if turn < 0.15:
            return self.key(known)
        if turn < 0.25:
            return ("mark", self.key(known))
        inner = self.key(known) if depth == 0 or turn < 0.6 else self.letter(known, depth - 1)
        if turn < 0.4:
            return ("lock", inner, (self.chance.choice(["open", "own"]), self.key(known)))
        if turn < 0.5:
            return ("own", inner)
        return ("seal", inner, self.key(known))

    def veiled(self, form):
        """The form with unknowns for some of what is in it."""
        if self.chance.random() < 0.3:
            return ("unknown", self.chance.choice(self.unknowns))
        if form[0] in ("word", "name", "unknown"):
            return form
        inner = [self.veiled(part) for part in form[1:]]
        if form[0] == "lock" and not oracle.is_key(inner[1]):
            inner[1] = form[2]
        return (form[0], *inner)

    def wishes(self, many):
        known, letters, found = [], [], []
        for turn in range(many):
            letters = letters + [self.letter(known, 1) for more in range(self.chance.randint(0 if turn else 1, 3))]
            parts = [part for letter in letters for part in oracle.parts_of(letter) if part[0] != "unknown"]
            wished = self.chance.choice(parts + [self.name()])
            if self.chance.random() < 0.7:
                wished = self.veiled(wished)
            found.append(([Letter.of(letter) for letter in letters], Letter.of(wished)))
            known = sorted(set(known) | set(found[-1][1].unknowns()))
        return found
