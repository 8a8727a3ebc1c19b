"""Schemas and states made by chance, the same ones in each run."""

KINDS = ("team", "dir", "doc")
NAMES = ("own", "see", "ban", "edit")


class Rule:
    """One rule in the making: `first` may be named anywhere, `second` in the second parts of buts."""

    def __init__(self, chance, kind, links, first, second):
        self.chance = chance
        self.kind = kind
        self.links = links
        self.first = first
        self.second = second
        self.direct = True

    def some_part(self, depth, taken):
        rights = self.second if taken else self.first
        here = [name for far, name in rights if far == self.kind]
        throughs = [(link, name) for link, kinds in self.links for name in NAMES
                    if all((far, name) in rights for far in kinds)]
        words = ["direct"] * (5 * self.direct) + ["same"] * bool(here) + ["through"] * bool(throughs)
        if not words:
            return None
        if depth > 1:
            words += ["either", "both", "but", "but", "either", "but"]
        word = self.chance.choice(words)
        if word == "direct":
            self.direct = False
            return ("direct", self.some_forms(rights))
        if word == "same":
            return ("same", self.chance.choice(here))
        if word == "through":
            return ("through",) + self.chance.choice(throughs)
        return self.some_parts(word, depth, taken)

    def some_forms(self, rights):
        forms = [("one", "user"), ("one", "bot"), ("all", "user"), ("all", "bot")]
        forms += [("who",) + right for right in rights] * 2
        return tuple(dict.fromkeys(self.chance.sample(forms, self.chance.randint(1, 4))))

    def some_parts(self, word, depth, taken):
        many = 2 if word == "but" else self.chance.randint(2, 3)
        parts = [self.some_part(depth - 1, taken or (word == "but" and k == 1)) for k in range(many)]
        parts = [part for part in parts if part is not None]
        if len(parts) < 2:
            return parts[0] if parts else None
        return ("but", parts[0], parts[1]) if word == "but" else (word, tuple(parts))


def some_schema(chance, wild=False):
    """A schema; a wild one may have circular buts."""
    kinds = KINDS[:chance.randint(1, 3)]
    rights = [(kind, name) for kind in kinds for name in NAMES[:chance.randint(1, 4)]]
    chance.shuffle(rights)
    entries = {}
    for kind in kinds:
        links = [("up", tuple(chance.sample(kinds, chance.randint(1, len(kinds)))))]
        entries[kind] = [(link, ("links", far)) for link, far in links]
        for k, (far, name) in enumerate(rights):
            if far == kind:
                # Rights that stand close together may name one another in rings.
                first = rights if wild else rights[:k // 3 * 3 + 3]
                second = rights if wild else rights[:k // 3 * 3]
                rule = Rule(chance, kind, links, first, second).some_part(chance.randint(1, 4), False)
                entries[kind].append((name, rule or ("same", name)))
        chance.shuffle(entries[kind])
    rows = [("user", ()), ("bot", ())] + [(kind, tuple(entries[kind])) for kind in kinds]
    chance.shuffle(rows)
    return tuple(rows)


def some_row(chance, schema, many):
    """A row, or None if what chance has chosen has no rows."""
    kind, entries = chance.choice([row for row in schema if row[1]])
    name, rule = chance.choice(entries)
    thing = (kind, chance.randrange(many))
    if rule[0] == "links":
        return (thing, name, ("one", (chance.choice(rule[1]), chance.randrange(many))))
    forms = direct_forms(rule)
    if not forms:
        return None
    form = chance.choice(forms)
    if form[0] == "one":
        return (thing, name, ("one", (form[1], chance.randrange(4))))
    if form[0] == "all":
        return (thing, name, form)
    return (thing, name, ("who", (form[1], chance.randrange(many)), form[2]))


def direct_forms(rule):
    if rule[0] == "direct":
        return rule[1]
    if rule[0] in ("same", "through"):
        return ()
    parts = rule[1] if rule[0] in ("either", "both") else rule[1:]
    return tuple(form for part in parts for form in direct_forms(part))


def some_state(chance, schema, rows, many):
    """A list of about so many rows, over so many things of each kind."""
    made = [some_row(chance, schema, many) for _ in range(rows)]
    return [row for row in made if row is not None]
