"""Configurations of things for a user of a bare kind, and the greatest sound list of them.

There may be two schemas with the same rows, the SIDES; then a configuration tells the atoms that hold by
each of them, and is sound in as far as one state does for both. The configurations of a kind have numbers:
bit k stands for the atom with place k. Sets of them are masks, {kind: mask} for all kinds.
"""

from relatedrights.atoms import atoms_of, ground_by_shape, leaf_masks, rights_by
from relatedrights.worlds import half_patterns


class Support:
    """What an atom of a side needs in the configurations `within` a kind, in which it holds.

    friends: tuples (kind, right, mask): one configuration of one of these masks must be there, unless the atom
    can hold by itself (alone).
    """

    def __init__(self, side, atom, within, friends, alone):
        self.side = side
        self.atom = atom
        self.within = within
        self.friends = friends
        self.alone = alone


class Configurations:
    """All configurations.

    atoms: {kind: list of (side, atom)}; held: for each side {kind: {atom: the mask of those in which it
    holds}}; having: for each side {kind: {right: the mask of those whose profile has it}}; supports: {kind:
    list}. Until lay_out is called, only their number is known.
    """

    def __init__(self, sides, bare):
        self.sides = sides
        self.bare = bare
        self.kinds = [kind for kind in sides[0].kinds if sides[0].kinds[kind]]
        self.atoms = {kind: self.atoms_in(kind) for kind in self.kinds}
        self.held = [{} for _ in sides]
        self.having = [{} for _ in sides]
        self.supports = {}

    def atoms_in(self, kind):
        """Return the list of tuples (side, atom) of a kind."""
        return [(k, atom) for k, tables in enumerate(self.sides) for atom in atoms_of(tables, self.bare, kind)]

    def number(self):
        """Return how many configurations there are."""
        return sum([1 << len(self.atoms[kind]) for kind in self.kinds])

    def everything(self):
        """Return the masks of all configurations."""
        return {kind: (1 << (1 << len(self.atoms[kind]))) - 1 for kind in self.kinds}

    def lay_out(self):
        """Find out what all configurations are like, and what they need."""
        for kind in self.kinds:
            atoms = self.atoms[kind]
            for (side, atom), half in zip(atoms, half_patterns(len(atoms))):
                self.held[side].setdefault(kind, {})[atom] = half
            for side, tables in enumerate(self.sides):
                self.having[side][kind] = rights_by(tables, kind, self.held[side].setdefault(kind, {}))
        every = self.everything()
        for kind in self.kinds:
            # What atoms need that rest on rows of the same relation can not be told one by one.
            together = {}
            for side, atom in self.atoms[kind]:
                together.setdefault(atom[:2], []).append((side, atom))
            self.supports[kind] = []
            for atoms in together.values():
                self.add_supports(kind, atoms, every)

    def add_supports(self, kind, atoms, every):
        """Add what some atoms need, for each set of them that holds without the others."""
        for number in range(1, 1 << len(atoms)):
            within = every[kind]
            for k, (side, atom) in enumerate(atoms):
                mask = self.held[side][kind][atom]
                within &= mask if number >> k & 1 else ~mask
            others = [atom for k, atom in enumerate(atoms) if not number >> k & 1]
            for k, (side, atom) in enumerate(atoms):
                if number >> k & 1:
                    friends = [(far, right, self.having[side][far][right] & ~self.barred(far, right, others))
                               for far, right in self.told_by(kind, atom)]
                    alone = not others and self.gives(kind, atom)
                    self.supports[kind].append(Support(side, atom, within, friends, alone))

    def told_by(self, kind, atom):
        """Return the rights (kind, right) of other things of which one is enough for an atom."""
        if atom[0] == "direct":
            return list(self.sides[0].forms[kind][atom[1]][2])
        return [(far, atom[2]) for far in self.sides[0].links[kind][atom[1]]]

    def gives(self, kind, atom):
        """Return whether a row can give an atom to the user by itself."""
        if atom[0] != "direct":
            return False
        ones, alls, _ = self.sides[0].forms[kind][atom[1]]
        return self.bare in ones or self.bare in alls

    def barred(self, far, right, others):
        """Return the mask of those of a kind by which one of some atoms would hold, too, if `right` is what is read."""
        mask = 0
        for side, atom in others:
            mask |= self.having[side][far][right if atom[0] == "direct" else atom[2]]
        return mask

    def greatest(self):
        """Return the masks of the greatest sound list."""
        live = self.everything()
        while True:
            left = self.standing(live)
            if left == live:
                return live
            live = left

    def standing(self, live):
        """Return the masks of those of a list that have all that they need in it."""
        ground = self.grounding(live)[-1]
        found = {}
        for kind in self.kinds:
            mask = live[kind]
            for support in self.supports[kind]:
                if not support.alone and not any([live[far] & friends for far, _, friends in support.friends]):
                    mask &= ~support.within
            for rights, grounded in zip(self.having, ground):
                for right, having in rights[kind].items():
                    mask &= grounded[kind][right] | ~having
            found[kind] = mask
        return found

    def grounding(self, live):
        """Return what is grounded in a list behind 0, 1, 2 .. rounds, each like `having`, the last one twice."""
        found = [[{kind: {right: 0 for right in rights[kind]} for kind in self.kinds} for rights in self.having]]
        while len(found) < 2 or found[-1] != found[-2]:
            found.append(self.next_round(live, found[-1]))
        return found

    def next_round(self, live, ground):
        """Return what is grounded by what was so in earlier rounds."""
        found = [{} for _ in self.sides]
        for kind in self.kinds:
            grounds = [{} for _ in self.sides]
            for support in self.supports[kind]:
                if support.alone or self.first_friend(support, live, ground) is not None:
                    atoms = grounds[support.side]
                    atoms[support.atom] = atoms.get(support.atom, 0) | support.within
            for k, tables in enumerate(self.sides):
                found[k][kind] = {}
                for right, having in self.having[k][kind].items():
                    leaves, shape = tables.leaves_by(kind, right)
                    grounded = leaf_masks(right, leaves, grounds[k], ground[k][kind])
                    masks = leaf_masks(right, leaves, self.held[k][kind], self.having[k][kind])
                    found[k][kind][right] = having & live[kind] & ground_by_shape(shape, grounded, masks)
        return found

    def first_friend(self, support, live, ground):
        """Return (kind, right, number) of the first friend in a list for whom the right is grounded, or None."""
        for far, right, friends in support.friends:
            mask = friends & live[far] & ground[support.side][far][right]
            if mask:
                return (far, right, (mask & -mask).bit_length() - 1)
        return None

    def matching(self, live, kind, having, lacking):
        """Return the mask of those of a kind in a list that have and lack some rights by the first side."""
        mask = live[kind]
        for right in having:
            mask &= self.having[0][kind][right]
        for right in lacking:
            mask &= ~self.having[0][kind][right]
        return mask

    def profile(self, side, kind, number):
        """Return the profile of a configuration by a side."""
        return tuple([right for right, mask in self.having[side][kind].items() if mask >> number & 1])

    def atoms_told(self, kind, number):
        """Return the tuple of the atoms of the first side that hold in a configuration."""
        return tuple([atom for k, (side, atom) in enumerate(self.atoms[kind]) if side == 0 and number >> k & 1])


def numbers_in(mask):
    """Return the places of the bits that are set in a mask, ascending."""
    return [k for k, digit in enumerate(f"{mask:b}"[::-1]) if digit == "1"]
