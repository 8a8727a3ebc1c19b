"""Sets of users as masks: the least ones for which all rules hold, level by level.

A MASK is an integer with bits for users, so that all are followed at once. A NODE is a right to a thing,
as a tuple (thing, relation). What stands in the index for a row that tells another node is True, or a mask
of those for whom the row is there.
"""

from heapq import heappop, heappush

from relatedrights.plans import Plans

NOTHING = ()


class Masks:
    """The masks of nodes, and of all that they read; classes below say what the bits stand for.

    order: the nodes, each behind those that it reads, but for rings; readers: {node: those that read it};
    given: {node: the mask of those whom its rows tell outright}; masks: {node: mask}, where one that is
    missing is one that nobody has.
    """

    def __init__(self, tables, index):
        self.tables = tables
        self.index = index
        self.plans = Plans(tables, index)
        self.order = []
        self.readers = {}
        self.given = {}
        self.masks = {}

    def give(self, plan, thing):
        """Take in what rows of a thing tell outright, by a direct plan."""

    def visit(self, root):
        """Put a node, and ahead of it all that it reads, into the order."""
        way = []
        if root not in self.readers:
            way.append((root, self.look_at(root)))
        while way:
            node, waiting = way[-1]
            while waiting and waiting[-1] in self.readers:
                self.readers[waiting.pop()].append(node)
            if waiting:
                ahead = waiting[-1]
                way.append((ahead, self.look_at(ahead)))
            else:
                way.pop()
                self.order.append(node)

    def look_at(self, node):
        """Take in what rows of a node tell outright, and return the nodes that it reads."""
        thing, relation = node
        self.readers[node] = []
        found = []
        waiting = [self.plans.plan(thing[0], relation)]
        while waiting:
            plan = waiting.pop()
            word = plan[0]
            if word == "direct":
                self.give(plan, thing)
            elif word == "who":
                found.extend([(subject[1], subject[2]) for subject in plan[1].get(thing, NOTHING)])
            elif word == "through":
                found.extend([(subject[1], plan[2]) for subject in plan[1].get(thing, NOTHING)])
            elif word == "same":
                found.append((thing, plan[1]))
            elif word == "but":
                waiting.extend(plan[1:])
            elif word != "never":
                waiting.extend(plan[1])
        return found

    def settle_all(self):
        """Find the masks of all nodes."""
        for layer in self.layers():
            self.settle(layer)

    def layers(self):
        """Return the nodes of each level, in their order."""
        if not any(self.tables.taken):
            return [self.order]
        found = {}
        for node in self.order:
            found.setdefault(self.tables.level(node[0][0], node[1]), []).append(node)
        return [found[level] for level in sorted(list(found))]

    def settle(self, layer):
        """Find the masks of all nodes of a level, those of the lower ones being known."""
        places = {node: k for k, node in enumerate(layer)}
        queue = []
        queued = {}
        for k, node in enumerate(layer):
            # Only in a ring is there a reader that comes ahead of what it reads.
            for place in self.look_again(node, places):
                if place <= k and place not in queued:
                    queued[place] = True
                    heappush(queue, place)
        while queue:
            # The first one of the order is next, so that a node mostly waits until what it reads is done.
            k = heappop(queue)
            del queued[k]
            for place in self.look_again(layer[k], places):
                if place not in queued:
                    queued[place] = True
                    heappush(queue, place)

    def look_again(self, node, places):
        """Find the mask of a node by its rule; return the places of its readers in the layer, if it grows."""
        mask = self.mask_by(self.plans.plan(node[0][0], node[1]), node[0])
        if mask == self.masks.get(node, 0):
            return NOTHING
        self.masks[node] = mask
        return [places[reader] for reader in self.readers[node] if reader in places]

    def mask_by(self, plan, thing):
        """Return the mask that a plan gives a thing by the masks that are known."""
        word = plan[0]
        mask = 0
        if word == "direct":
            mask = self.given[(thing, plan[2])]
        elif word == "same":
            mask = self.masks.get((thing, plan[1]), 0)
        elif word == "through" or word == "who":
            mask = self.mask_of_others(plan, plan[1].get(thing))
        elif word == "some" or word == "either":
            for part in plan[1]:
                mask |= self.mask_by(part, thing)
        elif word == "but":
            mask = self.mask_by(plan[1], thing)
            mask = mask and mask & ~self.mask_by(plan[2], thing)
        elif word == "both":
            mask = self.mask_by(plan[1][0], thing)
            for part in plan[1][1:]:
                mask = mask and mask & self.mask_by(part, thing)
        return mask

    def mask_of_others(self, plan, subjects):
        """Return the mask that subjects, a dict or None, give by a plan that reads other things."""
        mask = 0
        if subjects:
            masks = self.masks
            through = plan[0] == "through"
            for subject, there in subjects.items():
                more = masks.get((subject[1], plan[2] if through else subject[2]), 0)
                mask |= more if there is True else more & there
        return mask
