"""Schemas and states made by chance, the same ones in each run."""

KINDS = ("team", "dir", "doc")
NAMES = ("own", "see", "ban", "edit")


class Rule:
    """One rule in the making: `first` may be named anywhere, `second` in the second parts of buts."""

    def __init__(self, chance, kind, links, first, second):
        self.chance = chance
        self.kind = kind
        self.links = links
        self.first = first
        self.second = second
        self.direct = True

    def some_part(self, depth, taken):
        rights = self.second if taken else self.first
        here = [name for far, name in rights if far == self.kind]
        throughs = [(link, name) for link, kinds in self.links for name in NAMES
                    if all((far, name) in rights for far in kinds)]
        words = ["direct"] * (5 * self.direct) + ["same"] * bool(here) + ["through"] * bool(throughs)
        if not words:
            return None
        if depth > 1:
            words += ["either", "both", "but", "but", "either", "but"]
        word = self.chance.choice(words)
        if word == "direct":
            self.direct = False
            return ("direct", self.some_forms(rights))
        if word == "same":
            return ("same", self.chance.choice(here))
        if word == "through":
            return ("through",) + self.chance.choice(throughs)
        return self.some_parts(word, depth, taken)

    def some_forms(self, rights):
        forms = [("one", "user"), ("one", "bot"), ("all", "user"), ("all", "bot")]
        forms += [("who",) + right for right in rights] * 2
        return tuple(dict.fromkeys(self.chance.sample(forms, self.chance.randint(1, 4))))

    def some_parts(self, word, depth, taken):
        many = 2 if word == "but" else self.chance.randint(2, 3)
        parts = [self.some_part(depth - 1, taken or (word == "but" and k == 1)) for k in range(many)]
        parts = [part for part in parts if part is not None]
        if len(parts) < 2:
            return parts[0] if parts else None
        return ("but", parts[0], parts[1]) if word == "but" else (word, tuple(parts))


def some_schema(chance, wild=False):
    """A schema; a wild one may have circular buts."""
    kinds = KINDS[:chance.randint(1, 3)]
    rights = [(kind, name) for kind in kinds for name in NAMES[:chance.randint(1, 4)]]
    chance.shuffle(rights)
    entries = {}
    for kind in kinds:
        links = [("up", tuple(chance.sample(kinds, chance.randint(1, len(kinds)))))]
        entries[kind] = [(link, ("links", far)) for link, far in links]
        for k, (far, name) in enumerate(rights):
            if far == kind:
                # Rights that stand close together may name one another in rings.
                first = rights if wild else rights[:k // 3 * 3 + 3]
                second = rights if wild else rights[:k // 3 * 3]
                rule = Rule(chance, kind, links, first, second).some_part(chance.randint(1, 4), False)
                entries[kind].append((name, rule or ("same", name)))
        chance.shuffle(entries[kind])
    rows = [("user", ()), ("bot", ())] + [(kind, tuple(entries[kind])) for kind in kinds]
    chance.shuffle(rows)
    return tuple(rows)


def some_row(chance, schema, many):
    """A row, or None if what chance has chosen has no rows."""
    kind, entries = chance.choice([row for row in schema if row[1]])
    name, rule = chance.choice(entries)
    thing = (kind, chance.randrange(many))
    if rule[0] == "links":
        return (thing, name, ("one", (chance.choice(rule[1]), chance.randrange(many))))
    forms = direct_forms(rule)
    if not forms:
        return None
    form = chance.choice(forms)
    if form[0] == "one":
        return (thing, name, ("one", (form[1], chance.randrange(4))))
    if form[0] == "all":
        return (thing, name, form)
    return (thing, name, ("who", (form[1], chance.randrange(many)), form[2]))


def direct_forms(rule):
    if rule[0] == "direct":
        return rule[1]
    if rule[0] in ("same", "through"):
        return ()
    parts = rule[1] if rule[0] in ("either", "both") else rule[1:]
    return tuple(form for part in parts for form in direct_forms(part))


def some_state(chance, schema, rows, many):
    """A list of about so many rows, over so many things of each kind."""
    made = [some_row(chance, schema, many) for _ in range(rows)]
    return [row for row in made if row is not None]


def lively_schema(chance, buts=True):
    """A schema in which many rights come about: several links, groups by groups, few names, also a but."""
    kinds = KINDS[:chance.choice([1, 1, 2, 2, 3])]
    names = NAMES[:chance.randint(2, 3)]
    rows = [("user", ())] + [("bot", ())] * chance.choice([0, 0, 1])
    for kind in kinds:
        links = [(link, tuple(chance.sample(kinds, chance.randint(1, len(kinds)))))
                 for link in ("up", "in")[:chance.randint(0, 2)]]
        entries = [(link, ("links", far)) for link, far in links]
        for k, name in enumerate(names):
            # What a right names stands behind it everywhere, or is it itself, so no but is circular.
            entries.append((name, lively_rule(chance, kinds, links, names if not buts else names[k:], names[k + 1:], buts)))
        chance.shuffle(entries)
        rows.append((kind, tuple(entries)))
    chance.shuffle(rows)
    return tuple(rows)


def lively_rule(chance, kinds, links, first, second, buts):
    """A rule that names some names anywhere, and others in the second part of a but."""
    parts = [("through", link, chance.choice(first)) for link, _ in links] + [("same", chance.choice(first))]
    parts = chance.sample(parts, chance.choice([0, 1, 1, min(2, len(parts))]))
    if chance.random() < 0.85 or not parts:
        forms = [("one", "user")] * 3 + [("all", "user")] + [("who", far, chance.choice(first)) for far in kinds]
        parts.append(("direct", tuple(dict.fromkeys(chance.sample(forms, chance.randint(1, 4))))))
    rule = parts[0]
    if len(parts) > 1:
        rule = (chance.choice(["either", "either", "either", "both"]), tuple(parts))
    if buts and second and chance.random() < 0.5:
        rule = ("but", rule, ("same", chance.choice(second)))
    return rule


def lively_state(chance, schema, rows, many):
    """A list of at most so many rows, most of which tell one of three users."""
    made = []
    for row in some_state(chance, schema, rows, many):
        rule = dict(dict(schema)[row[0][0]])[row[1]]
        if rule[0] != "links" and ("one", "user") in direct_forms(rule) and chance.random() < 0.5:
            row = (row[0], row[1], ("one", ("user", chance.randrange(3))))
        made.append(row)
    return made


def without_buts(schema):
    """A schema with an either in the place of each but."""
    return tuple((kind, tuple((name, either_rule(rule)) for name, rule in entries)) for kind, entries in schema)


def either_rule(rule):
    if rule[0] == "but":
        return ("either", (either_rule(rule[1]), either_rule(rule[2])))
    if rule[0] in ("either", "both"):
        return (rule[0], tuple(either_rule(part) for part in rule[1]))
    return rule


def some_rules(chance, schema, liked=()):
    """Rules of writing, for most of what can have rows; they mostly ask for rights (kind, name) that are liked."""
    found = []
    for kind, entries in schema:
        names = [name for name, rule in entries if rule[0] != "links"]
        if names:
            names += [None] + [name for far, name in liked if far == kind] * 4
            for name, rule in entries:
                if (rule[0] == "links" or direct_forms(rule)) and chance.random() < 0.9:
                    found.append((kind, name, chance.choice(names), chance.choice(names)))
    chance.shuffle(found)
    return found


def one_of_both(chance):
    """A schema of the one sort or of the other one, and what makes states for it."""
    if chance.random() < 0.2:
        return some_schema(chance), some_state
    return lively_schema(chance), lively_state
