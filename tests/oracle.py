"""What DOC.md says of heaps, done in the plainest way, for small heaps: to hold the program against."""

WORDS = (("word", "a"), ("word", "b"))


def is_key(form):
    return form[0] in ("open", "own")


def partner(key):
    return ("own" if key[0] == "open" else "open", key[1])


def parts_of(form):
    """All forms in a form."""
    found = [form]
    if form[0] not in ("word", "name", "unknown"):
        for inner in form[1:]:
            found.extend(parts_of(inner))
    return found


def made_of(forms, wanted):
    """What can be made of some forms among all that could be of use for it or is wanted, as a set."""
    universe = set()
    for form in list(forms) + list(wanted):
        universe.update(parts_of(form))
    for form in list(universe):
        if is_key(form):
            universe.add(partner(form))
    have = set(forms) | {form for form in universe if form[0] == "word"}
    while True:
        more = set()
        for form in universe - have:
            if form[0] in ("pair", "seal", "lock", "mark", "open") and all(inner in have for inner in form[1:]):
                more.add(form)
        for form in have:
            if form[0] == "pair":
                more.update(form[1:])
            if form[0] == "seal" and form[2] in have:
                more.add(form[1])
            if form[0] == "lock" and partner(form[2]) in have:
                more.add(form[1])
        if more <= have:
            return have
        have |= more


def opened(forms):
    """The opened parts of some forms, as a set."""
    have = made_of(forms, [])
    found = set(forms)
    while True:
        more = set()
        for form in found:
            if form[0] == "pair":
                more.update(form[1:])
            if form[0] == "seal" and form[2] in have or form[0] == "lock" and partner(form[2]) in have:
                more.add(form[1])
        if more <= found:
            return found
        found |= more


def step(kind, inputs):
    """The form that a kind of recipe makes of some forms, or None."""
    first = inputs[0]
    if kind in ("first", "second"):
        return first[1 if kind == "first" else 2] if first[0] == "pair" else None
    if kind == "unseal":
        return first[1] if first[0] == "seal" and first[2] == inputs[1] else None
    if kind == "unlock":
        return first[1] if first[0] == "lock" and partner(first[2]) == inputs[1] else None
    if kind == "lock" and not is_key(inputs[1]):
        return None
    return (kind, *inputs)


def run(forms, recipe):
    """The form that a recipe makes of some forms, or None."""
    if recipe[0] == "at":
        return forms[recipe[1]] if 0 <= recipe[1] < len(forms) else None
    if recipe[0] == "word":
        return recipe
    inputs = [run(forms, inner) for inner in recipe[1:]]
    return None if None in inputs else step(recipe[0], inputs)


def parts_them(forms, others, test):
    """Whether a test parts two lists of forms."""
    if test[0] == "works":
        return (run(forms, test[1]) is None) != (run(others, test[1]) is None)
    made = [[run(held, recipe) for recipe in test[1:]] for held in (forms, others)]
    assert test[0] == "same" and len(test) == 3 and None not in made[0] + made[1]
    return (made[0][0] == made[0][1]) != (made[1][0] == made[1][1])


def size(form):
    return len(parts_of(form))


class Search:
    """Looks for a test that parts two lists of forms among the recipes that make small letters."""

    def __init__(self, forms, others, limit, most):
        self.limit, self.most = limit, most
        self.there, self.back, self.found = {}, {}, None
        for k in range(len(forms)):
            self.note(forms[k], others[k], ("at", k))
        for word in WORDS:
            self.note(word, word, word)

    def note(self, form, other, recipe):
        if (form is None) != (other is None):
            self.found = self.found or ("works", recipe)
        elif form is not None:
            before = self.there.get(form) or self.back.get(other)
            if before is None:
                self.there[form] = self.back[other] = (form, other, recipe)
            elif before[:2] != (form, other):
                self.found = self.found or ("same", recipe, before[2])

    def go(self, kind, entries):
        form = step(kind, [entry[0] for entry in entries])
        other = step(kind, [entry[1] for entry in entries])
        small = form is None or other is None or size(form) <= self.limit or size(other) <= self.limit
        if small or form in self.there or other in self.back:
            self.note(form, other, (kind, *[entry[2] for entry in entries]))

    def test(self, rounds):
        for turn in range(rounds):
            entries = sorted(self.there.values(), key=lambda entry: size(entry[0]) + size(entry[1]))[:self.most]
            for entry in entries:
                for kind in ("first", "second", "mark", "open"):
                    self.go(kind, [entry])
            for entry in entries:
                for against in entries:
                    for kind in ("unseal", "unlock", "pair", "seal", "lock"):
                        self.go(kind, [entry, against])
            if self.found:
                return self.found
        return self.found


class Maker:
    """Makes forms by chance out of few names, keys and words."""

    def __init__(self, chance):
        self.chance = chance
        names = [("name", "K"), ("name", "M")]
        self.pool = names + [("open", name) for name in names] + [("own", name) for name in names]
        self.pool += [("word", "a"), ("own", ("word", "a")), ("open", ("own", names[0])), ("own", ("own", names[0]))]

    def key(self):
        return self.chance.choice(self.pool)

    def lock_key(self):
        return self.chance.choice([form for form in self.pool if is_key(form)])

    def wrapped(self, form):
        kind = self.chance.choice(["seal", "seal", "lock", "lock", "mark"])
        if kind == "mark":
            return ("mark", form)
        return (kind, form, self.key() if kind == "seal" else self.lock_key())

    def letter(self):
        turn = self.chance.random()
        if turn < 0.35:
            return self.key()
        body = self.chance.choice([self.key(), ("mark", self.key()), ("pair", self.key(), self.key()),
                                   self.wrapped(self.key())])
        return body if turn < 0.5 else self.wrapped(body)

    def heap(self, most):
        return [self.letter() for turn in range(self.chance.randint(1, most))]

    def renamed(self, form, names):
        if form[0] == "name":
            return ("name", names.get(form[1], form[1]))
        if form[0] == "word":
            return form
        return (form[0], *[self.renamed(inner, names) for inner in form[1:]])

    def spoilt(self, form):
        """The form with another one somewhere in it."""
        if form[0] in ("word", "name") or self.chance.random() < 0.3:
            return self.key()
        at = self.chance.randrange(1, len(form))
        inner = self.spoilt(form[at])
        if form[0] == "lock" and at == 2 and not is_key(inner):
            inner = self.lock_key()
        return form[:at] + (inner,) + form[at + 1:]
