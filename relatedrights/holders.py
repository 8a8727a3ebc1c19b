"""Who has which rights in a state, for all users at once: the least sets for which all rules hold.

A set of users is a MASK, an integer with a bit for each of them, so that all are followed at once. A
NODE is a right to a thing, as a tuple (thing, relation).
"""

from heapq import heappop, heappush

from relatedrights.plans import Plans

NOTHING = ()


class Holders:
    """The masks of nodes, and of all that they read.

    places: {user: the place of its bit}, for those whom rows of nodes or of what they read give a right
    outright; the user (kind, -1), whom no row can name, stands for all others of each bare kind. given:
    {node: the mask of those whom its rows tell}; crowded: {node: its kinds of which rows tell all users};
    order: the nodes, each behind those that it reads, but for rings; readers: {node: those that read it};
    masks: {node: mask}, where one that is missing is one that nobody has.
    """

    def __init__(self, tables, index, roots):
        self.tables = tables
        self.index = index
        self.plans = Plans(tables, index)
        self.places = {(kind, -1): k for k, kind in enumerate(tables.bare_kinds())}
        self.given = {}
        self.crowded = {}
        self.order = []
        self.readers = {}
        self.masks = {}
        for root in roots:
            self.visit(root)
        self.give_to_crowds()
        for layer in self.layers():
            self.settle(layer)

    def visit(self, root):
        """Put a node, and ahead of it all that it reads, into the order."""
        way = []
        if root not in self.readers:
            way.append((root, self.look_at(root)))
        while way:
            node, waiting = way[-1]
            while waiting and waiting[-1] in self.readers:
                self.readers[waiting.pop()].append(node)
            if waiting:
                ahead = waiting[-1]
                way.append((ahead, self.look_at(ahead)))
            else:
                way.pop()
                self.order.append(node)

    def look_at(self, node):
        """Take in what rows of a node tell outright, and return the nodes that it reads."""
        thing, relation = node
        self.readers[node] = []
        found = []
        waiting = [self.plans.plan(thing[0], relation)]
        while waiting:
            plan = waiting.pop()
            word = plan[0]
            if word == "direct":
                self.give(plan, thing)
            elif word == "who":
                found.extend([(subject[1], subject[2]) for subject in plan[1].get(thing, NOTHING)])
            elif word == "through":
                found.extend([(subject[1], plan[2]) for subject in plan[1].get(thing, NOTHING)])
            elif word == "same":
                found.append((thing, plan[1]))
            elif word == "but":
                waiting.extend(plan[1:])
            elif word != "never":
                waiting.extend(plan[1])
        return found

    def give(self, plan, thing):
        """Find the mask of those whom rows of a thing tell, by a direct plan."""
        node = (thing, plan[2])
        if node in self.given:
            return
        mask = 0
        first = []
        for subject in plan[1].get(thing, NOTHING):
            word, told = subject
            if word == "all":
                self.crowded.setdefault(node, []).append(told)
            elif told in self.places:
                mask |= 1 << self.places[told]
            else:
                first.append(told)
        # Those who are told for the first time get places side by side.
        old = len(self.places)
        self.places.update({user: old + k for k, user in enumerate(first)})
        self.given[node] = mask | (1 << len(self.places)) - (1 << old)

    def give_to_crowds(self):
        """Add all users of the kinds that rows tell as a whole to the masks of those rows."""
        crowds = {}
        if self.crowded:
            for user, place in self.places.items():
                crowds[user[0]] = crowds.get(user[0], 0) | 1 << place
        for node, kinds in self.crowded.items():
            for kind in kinds:
                self.given[node] |= crowds[kind]

    def layers(self):
        """Return the nodes of each level, in their order."""
        if not any(self.tables.taken):
            return [self.order]
        found = {}
        for node in self.order:
            found.setdefault(self.tables.level(node[0][0], node[1]), []).append(node)
        return [found[level] for level in sorted(list(found))]

    def settle(self, layer):
        """Find the masks of all nodes of a level, those of the lower ones being known."""
        places = {node: k for k, node in enumerate(layer)}
        queue = []
        queued = {}
        for k, node in enumerate(layer):
            # Only in a ring is there a reader that comes ahead of what it reads.
            for place in self.look_again(node, places):
                if place <= k and place not in queued:
                    queued[place] = True
                    heappush(queue, place)
        while queue:
            # The first one of the order is next, so that a node mostly waits until what it reads is done.
            k = heappop(queue)
            del queued[k]
            for place in self.look_again(layer[k], places):
                if place not in queued:
                    queued[place] = True
                    heappush(queue, place)

    def look_again(self, node, places):
        """Find the mask of a node by its rule; return the places of its readers in the layer, if it grows."""
        mask = self.mask_by(self.plans.plan(node[0][0], node[1]), node[0])
        if mask == self.masks.get(node, 0):
            return NOTHING
        self.masks[node] = mask
        return [places[reader] for reader in self.readers[node] if reader in places]

    def mask_by(self, plan, thing):
        """Return the mask that a plan gives a thing by the masks that are known."""
        word = plan[0]
        masks = self.masks
        mask = 0
        if word == "direct":
            mask = self.given[(thing, plan[2])]
        elif word == "same":
            mask = masks.get((thing, plan[1]), 0)
        elif word == "through":
            for subject in plan[1].get(thing, NOTHING):
                mask |= masks.get((subject[1], plan[2]), 0)
        elif word == "who":
            for subject in plan[1].get(thing, NOTHING):
                mask |= masks.get((subject[1], subject[2]), 0)
        elif word == "some" or word == "either":
            for part in plan[1]:
                mask |= self.mask_by(part, thing)
        elif word == "but":
            mask = self.mask_by(plan[1], thing)
            mask = mask and mask & ~self.mask_by(plan[2], thing)
        elif word == "both":
            mask = self.mask_by(plan[1][0], thing)
            for part in plan[1][1:]:
                mask = mask and mask & self.mask_by(part, thing)
        return mask

    def holders_of(self, node):
        """Return the list of the named users that have a node, ascending, and the bare kinds of which all others do."""
        mask = self.masks.get(node, 0)
        digits = f"{mask:b}"[::-1]
        found = [user for user, digit in zip(self.places, digits) if digit == "1"]
        # The users that stand for whole kinds have the first places.
        kinds = [kind for k, kind in enumerate(self.tables.bare_kinds()) if mask >> k & 1]
        users = found[len(kinds):]
        if kinds:
            users.extend([user for user in self.index.users() if user[0] in kinds and user not in self.places])
        return sorted(users), kinds
