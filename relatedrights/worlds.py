"""Who has which rights in many states at once.

These states are called WORLDS, and have numbers from 0 on. A PATTERN is a set of worlds, as an integer with
a bit for each one. A mask has for each user that is followed a block of bits, a pattern each.
"""

from relatedrights.masks import Masks


class Worlds(Masks):
    """The masks of nodes, and of all that they read, in some worlds.

    The index has the rows of all worlds; patterns: {row: the worlds in which it is there}, for those that are
    not there in all of them. places: {user: the place of its block}; the user (kind, -1), whom no row can
    name, stands for all users of its kind that have none. blocks: the first bits of all blocks.
    """

    def __init__(self, tables, index, many, patterns):
        Masks.__init__(self, tables, index)
        self.many = many
        self.every = (1 << many) - 1
        self.patterns = patterns
        self.places = {}
        self.blocks = 0
        self.parts = []
        for row, pattern in patterns.items():
            index.put(row, pattern)

    def give(self, plan, thing):
        """Note that rows of a thing may tell users outright."""
        self.parts.append((plan, thing))

    def look_for(self, roots, users):
        """Find the masks of some nodes for these users alone."""
        for root in roots:
            self.visit(root)
        self.follow(users)

    def look_for_all(self, roots, users):
        """Find the masks of those of some nodes that are not the same in all worlds, for all users.

        Return these nodes. The users that are told have blocks of their own, whether rows tell them or not.
        """
        for root in roots:
            self.visit(root)
        changing = self.changing()
        found = [root for root in roots if root in changing]
        if len(changing) < len(self.order):
            # What is the same in all worlds is not worth its masks, unless the others read it.
            self.order = []
            self.readers = {}
            self.parts = []
            for root in found:
                self.visit(root)
        told = {(kind, -1): True for kind in self.tables.bare_kinds()}
        told.update({user: True for user in users})
        for plan, thing in self.parts:
            told.update({subject[1]: True for subject in plan[1].get(thing, {}) if subject[0] == "one"})
        self.follow(list(told))
        return found

    def changing(self):
        """Return a dict of True for the nodes that may not be the same in all worlds."""
        things = {row[0]: True for row in self.patterns}
        waiting = [node for node in self.order if node[0] in things]
        found = {node: True for node in waiting}
        while waiting:
            for reader in self.readers[waiting.pop()]:
                if reader not in found:
                    found[reader] = True
                    waiting.append(reader)
        return found

    def follow(self, users):
        """Find the masks of all nodes that were visited, for some users."""
        self.places = {user: k for k, user in enumerate(users)}
        self.blocks = sum([1 << k * self.many for k in range(len(users))])
        for row, pattern in self.patterns.items():
            if row[2][0] == "who" or row[1] in self.tables.links[row[0][0]]:
                self.index.put(row, pattern * self.blocks)
        crowds = {}
        for user, place in self.places.items():
            crowds[user[0]] = crowds.get(user[0], 0) | 1 << place * self.many
        for plan, thing in self.parts:
            if (thing, plan[2]) not in self.given:
                self.given[(thing, plan[2])] = self.told_by(plan[1].get(thing, {}), crowds)
        self.settle_all()

    def told_by(self, subjects, crowds):
        """Return the mask of those whom subjects tell outright; crowds: {kind: the first bits of its blocks}."""
        mask = 0
        for (word, told), there in subjects.items():
            pattern = self.every if there is True else there
            if word == "all":
                mask |= pattern * crowds.get(told, 0)
            elif told in self.places:
                mask |= pattern << self.places[told] * self.many
        return mask

    def worlds_of(self, node, user):
        """Return the pattern of the worlds in which a user that is followed has a node."""
        return self.masks.get(node, 0) >> self.places[user] * self.many & self.every

    def has(self, node, user, world):
        """Return whether any user has a node in a world."""
        if user not in self.places:
            user = (user[0], -1)
        return self.worlds_of(node, user) >> world & 1 == 1

    def changes_of(self, node):
        """Return the mask in which each bit says whether that of a node is not as in world 0."""
        mask = self.masks.get(node, 0)
        return mask ^ (mask & self.blocks) * self.every

    def changed_by_user(self, node):
        """Return the list of tuples (user, pattern) of the worlds in which it is not with a node as in world 0."""
        blocks = blocks_in(self.changes_of(node), len(self.places), self.many)
        users = list(self.places) if blocks else []
        return [(users[place], pattern) for place, pattern in blocks]

    def worlds_apart(self, nodes):
        """Return the pattern of the worlds in which it is not with all nodes and users as in world 0."""
        mask = 0
        for node in nodes:
            mask |= self.changes_of(node)
        # The blocks are laid upon one another, half of them upon the other half.
        blocks = len(self.places)
        while blocks > 1:
            blocks = (blocks + 1) // 2
            mask = mask >> blocks * self.many | mask & (1 << blocks * self.many) - 1
        return mask


def blocks_in(mask, blocks, many):
    """Return the blocks of so many bits each in a mask that are not empty, as tuples (place, block), ascending."""
    found = []
    waiting = [(mask, 0, blocks)]
    while waiting:
        mask, place, blocks = waiting.pop()
        if mask and blocks == 1:
            found.append((place, mask))
        elif mask:
            # Halves, so that the greater part of a mask need not be looked at once for each of its blocks.
            half = blocks // 2
            waiting.append((mask >> half * many, place + half, blocks - half))
            waiting.append((mask & (1 << half * many) - 1, place, half))
    return found


def half_patterns(many):
    """Return for each of so many switches the worlds in which it is set, if bit k of their numbers stands for k."""
    every = (1 << (1 << many)) - 1
    return [every ^ every // ((1 << (1 << k)) + 1) for k in range(many)]
