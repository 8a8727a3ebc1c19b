"""What a user alone can come to in any state, in a schema without a but, by the configurations of things.

The richest state has a thing for each configuration of the greatest sound list, and all rows between them
that leave these what they are; whatever can be come to in any state can be come to there.
"""

from relatedrights.atoms import atom_of, mask_by_shape
from relatedrights.configurations import numbers_in


class Spreading:
    """The configurations in which rights are had by and by.

    live: the greatest sound list; turns: for 0, 1, 2 .. turns {kind: {right: the mask of those in which it is
    had by then}}; links: {(kind, link): a list of tuples (within, lacking, [(kind, allowed)])}: those within
    lack these rights by the link, and can be linked to what is allowed.
    """

    def __init__(self, configurations, rules):
        self.configurations = configurations
        self.tables = configurations.sides[0]
        self.rules = rules
        self.live = configurations.greatest()
        self.links = {}
        for kind in configurations.kinds:
            together = {}
            for _, atom in configurations.atoms[kind]:
                if atom[0] == "through":
                    together.setdefault(atom[1], []).append(atom)
            for link, atoms in together.items():
                self.links[(kind, link)] = self.linkings(kind, link, atoms)
        rights = configurations.having[0]
        first = {kind: {right: mask & self.live[kind] for right, mask in rights[kind].items()} for kind in self.live}
        self.turns = [first]
        while len(self.turns) < 2 or self.turns[-1] != self.turns[-2]:
            self.turns.append(self.next_turn(self.turns[-1]))

    def linkings(self, kind, link, atoms):
        """Return the tuples of a link, for each set of atoms that do not hold by it, but the empty one."""
        configurations = self.configurations
        found = []
        for number in range(1, 1 << len(atoms)):
            within = self.live[kind]
            lacking = []
            for k, atom in enumerate(atoms):
                held = configurations.held[0][kind][atom]
                within &= ~held if number >> k & 1 else held
                if number >> k & 1:
                    lacking.append(atom[2])
            allowed = []
            for far in self.tables.links[kind][link]:
                allowed.append((far, configurations.matching(self.live, far, [], lacking)))
            found.append((within, lacking, allowed))
        return found

    def next_turn(self, had):
        """Return what is had one turn later."""
        found = {}
        for kind in had:
            found[kind] = {}
            for right, mask in had[kind].items():
                leaves, shape = self.tables.leaves_by(kind, right)
                masks = [self.mask_of_leaf(kind, right, leaf, had) for leaf in leaves]
                found[kind][right] = mask | mask_by_shape(shape, masks)
        return found

    def mask_of_leaf(self, kind, right, leaf, had):
        """Return the mask in which a leaf of the rule of a right holds by what is had."""
        if leaf[0] == "same":
            return had[kind][leaf[1]]
        mask = self.configurations.held[0][kind].get(atom_of(right, leaf), 0) & self.live[kind]
        if leaf[0] == "direct":
            # A row may stand there at first that tells a right which is not had at first.
            if self.grown(kind, right, had) is not None:
                mask = self.live[kind]
            elif self.gives(kind, right) or self.any_told(kind, right, leaf, had) is not None:
                mask |= self.open_in(kind, right, had)
            return mask
        for within, lacking, allowed in self.links[(kind, leaf[1])]:
            if leaf[2] in lacking and any([friends & had[far][leaf[2]] for far, friends in allowed]):
                mask |= within
        if self.any_told(kind, right, leaf, had) is not None:
            mask |= self.open_in(kind, leaf[1], had)
        return mask

    def gives(self, kind, right):
        """Return whether a row of a right can give it to the user by itself."""
        ones, alls, _ = self.tables.forms[kind][right]
        return self.configurations.bare in ones or self.configurations.bare in alls

    def open_in(self, kind, relation, had):
        """Return the mask of those of a kind whose rows of a relation the user may put."""
        put = self.rules[(kind, relation)][0] if (kind, relation) in self.rules else None
        return 0 if put is None else had[kind][put]

    def grown(self, kind, right, had):
        """Return the first (kind, right, number) that a row of a right can tell and that is had, but not at first."""
        for far, name in self.tables.forms[kind][right][2]:
            mask = had[far][name] & ~self.turns[0][far][name]
            if mask:
                return (far, name, numbers_in(mask)[0])
        return None

    def any_told(self, kind, right, leaf, had):
        """Return the first (kind, right, number) that a row of a leaf's relation can tell and that is had."""
        if leaf[0] == "direct":
            told = list(self.tables.forms[kind][right][2])
        else:
            told = [(far, leaf[2]) for far in self.tables.links[kind][leaf[1]]]
        for far, name in told:
            if had[far][name]:
                return (far, name, numbers_in(had[far][name])[0])
        return None

    def reaching(self, kind, profile, relation):
        """Return the mask of those of a kind with just this profile in which a right is had in the end."""
        lacking = [right for right in self.tables.bits[kind] if right not in profile]
        return self.configurations.matching(self.live, kind, profile, lacking) & self.turns[-1][kind][relation]

    def show(self, example, place, right):
        """Add to an example all rows that a user needs to come to a right to a configuration (kind, number)."""
        waiting = [(place, right)]
        seen = {}
        while waiting:
            fact = waiting.pop()
            if fact in seen:
                continue
            seen[fact] = True
            place, right = fact
            example.show(place)
            turn = self.turn_of(place, right)
            if turn > 0:
                rule = self.tables.kinds[place[0]][right]
                for other, row in self.reason(place, right, rule, self.turns[turn - 1]):
                    if other is not None:
                        waiting.append(other)
                    if row is not None:
                        example.made[row] = True

    def turn_of(self, place, right):
        """Return the first turn in which a right to a configuration is had."""
        turn = 0
        while not self.turns[turn][place[0]][right] >> place[1] & 1:
            turn += 1
        return turn

    def reason(self, place, right, rule, had):
        """Return by what a part of the rule of a right holds: tuples (right to a configuration, row), or None.

        In each tuple there may be None in the place of a right, or of a row that must be there at first.
        """
        if rule[0] == "either":
            for part in rule[1]:
                found = self.reason(place, right, part, had)
                if found is not None:
                    return found
            return None
        if rule[0] == "both":
            joined = []
            for part in rule[1]:
                found = self.reason(place, right, part, had)
                if found is None:
                    return None
                joined.extend(found)
            return joined
        if rule[0] == "same":
            return [((place, rule[1]), None)] if had[place[0]][rule[1]] >> place[1] & 1 else None
        return self.reason_of_leaf(place, right, rule, had)

    def reason_of_leaf(self, place, right, leaf, had):
        """Return the same for a direct part or a through part."""
        kind, number = place
        if self.configurations.held[0][kind].get(atom_of(right, leaf), 0) >> number & 1:
            return []
        row = self.row_at_first(place, right, leaf, had)
        if row is not None:
            return [row]
        relation = right if leaf[0] == "direct" else leaf[1]
        if not self.open_in(kind, relation, had) >> number & 1:
            return None
        put = (place, self.rules[(kind, relation)][0])
        if leaf[0] == "direct" and self.gives(kind, right):
            return [(put, None)]
        told = self.any_told(kind, right, leaf, had)
        return None if told is None else [(put, None), ((told[::2], told[1]), None)]

    def row_at_first(self, place, right, leaf, had):
        """Return a tuple (right to a configuration, row) by which a leaf holds that did not at first, or None."""
        kind, number = place
        if leaf[0] == "direct":
            told = self.grown(kind, right, had)
            if told is None:
                return None
            other = told[::2]
            return ((other, told[1]), (place, right, ("who", other, told[1])))
        for within, lacking, allowed in self.links[(kind, leaf[1])]:
            if within >> number & 1 and leaf[2] in lacking:
                for far, friends in allowed:
                    mask = friends & had[far][leaf[2]]
                    if mask:
                        other = (far, numbers_in(mask)[0])
                        return ((other, leaf[2]), (place, leaf[1], ("one", other)))
        return None
