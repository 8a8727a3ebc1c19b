"""Stage 9 of the document once more, as plainly and slowly as can be, to compare with."""

import itertools

from tests.made import direct_forms
from tests.slow import is_link, levels_of, rule_of


def leaves_of(rule):
    """All parts of a rule without parts."""
    if rule[0] in ("direct", "same", "through"):
        return [rule]
    parts = rule[1] if rule[0] in ("either", "both") else rule[1:]
    return [leaf for part in parts for leaf in leaves_of(part)]


def atoms_of(schema, bare, kind):
    direct, through = [], set()
    for name, rule in dict(schema)[kind]:
        if not is_link(rule):
            forms = direct_forms(rule)
            if ("one", bare) in forms or ("all", bare) in forms or any(form[0] == "who" for form in forms):
                direct.append(("direct", name))
            through |= {leaf for leaf in leaves_of(rule) if leaf[0] == "through"}
    return direct + sorted(through)


def configurations_of(schema, bare):
    found = []
    for kind, entries in schema:
        atoms = atoms_of(schema, bare, kind)
        for size in range(len(atoms) + 1 if entries else 0):
            found.extend([(kind, some) for some in itertools.combinations(atoms, size)])
    return found


def holds(rule, name, atoms, had):
    """Whether a rule of the right `name` holds by the atoms that hold and the rights that are had."""
    if rule[0] == "direct":
        return ("direct", name) in atoms
    if rule[0] == "through":
        return rule in atoms
    if rule[0] == "same":
        return rule[1] in had
    parts = rule[1] if rule[0] in ("either", "both") else rule[1:]
    truths = [holds(part, name, atoms, had) for part in parts]
    if rule[0] == "but":
        return truths[0] and not truths[1]
    return any(truths) if rule[0] == "either" else all(truths)


def profile_of(schema, configuration, levels):
    kind, atoms = configuration
    names = [name for name, rule in dict(schema)[kind] if not is_link(rule)]
    had = []
    for level in range(max(levels.values(), default=0) + 1):
        grown = True
        while grown:
            grown = False
            for name in names:
                if levels[(kind, name)] == level and name not in had:
                    if holds(rule_of(schema, kind, name), name, atoms, had):
                        had.append(name)
                        grown = True
    return tuple(name for name in names if name in had)


class Soundness:
    """The three rules, for one list of configurations."""

    def __init__(self, schema, bare, listed, profiles):
        self.schema = schema
        self.bare = bare
        self.listed = listed
        self.profiles = profiles
        self.grounded = set()
        while True:
            more = {(entry, name) for entry in listed for name in profiles[entry]
                    if self.is_grounded(entry, name, rule_of(schema, entry[0], name))}
            if more == self.grounded:
                break
            self.grounded = more

    def friends(self, entry, link, right):
        kind, atoms = entry
        others = [atom[2] for atom in atoms_of(self.schema, self.bare, kind)
                  if atom[0] == "through" and atom[1] == link and atom not in atoms]
        return [far for far in self.listed if far[0] in rule_of(self.schema, kind, link)[1]
                and right in self.profiles[far] and not set(others) & set(self.profiles[far])]

    def forms(self, kind, name):
        return direct_forms(rule_of(self.schema, kind, name))

    def outright(self, kind, name):
        return ("one", self.bare) in self.forms(kind, name) or ("all", self.bare) in self.forms(kind, name)

    def told(self, kind, name):
        """The configurations, with rights, by which a who-row can give a direct part."""
        return [(far, form[2]) for form in self.forms(kind, name) if form[0] == "who" for far in self.listed
                if far[0] == form[1] and form[2] in self.profiles[far]]

    def is_grounded(self, entry, name, rule):
        kind, atoms = entry
        if rule[0] == "same":
            return (entry, rule[1]) in self.grounded
        if rule[0] == "through":
            return rule in atoms and any((far, rule[2]) in self.grounded for far in self.friends(entry, *rule[1:]))
        if rule[0] == "direct":
            return ("direct", name) in atoms and (self.outright(kind, name) or any(
                node in self.grounded for node in self.told(kind, name)))
        if rule[0] == "but":
            return self.is_grounded(entry, name, rule[1]) and not holds(rule[2], name, atoms, self.profiles[entry])
        truths = [self.is_grounded(entry, name, part) for part in rule[1]]
        return any(truths) if rule[0] == "either" else all(truths)

    def stands(self, entry):
        kind, atoms = entry
        for atom in atoms:
            if atom[0] == "through" and not self.friends(entry, atom[1], atom[2]):
                return False
            if atom[0] == "direct" and not self.outright(kind, atom[1]) and not self.told(kind, atom[1]):
                return False
        return all((entry, name) in self.grounded for name in self.profiles[entry])


def is_sound(schema, bare, listed, profiles):
    rules = Soundness(schema, bare, listed, profiles)
    return all(rules.stands(entry) for entry in listed)


def all_profiles(schema, bare):
    levels = levels_of(schema)
    return {entry: profile_of(schema, entry, levels) for entry in configurations_of(schema, bare)}


def greatest(schema, bare, profiles):
    """The greatest sound list, by throwing out one after another what does not stand."""
    listed = list(profiles)
    while True:
        rules = Soundness(schema, bare, listed, profiles)
        wrong = [entry for entry in listed if not rules.stands(entry)]
        if not wrong:
            return listed
        listed = [entry for entry in listed if entry != wrong[-1]]
