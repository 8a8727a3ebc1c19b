"""Who has which rights in a state: the least sets for which all rules hold, found level by level.

A set of users is a MASK, an integer with a bit for each of them, so that all are followed at once. A
NODE is a right to a thing, as a tuple (thing, relation).
"""

from heapq import heappop, heappush


def masks_of(tables, index, users, roots):
    """Return {node: mask} for the roots and all that they read; users are the different ones that count.

    A node that is missing there is one that none of the users has.
    """
    holders = Holders(tables, index, users)
    for root in roots:
        holders.visit(root)
    for layer in holders.layers():
        holders.settle(layer)
    return holders.masks


class Holders:
    """Nodes with what they read, and the masks that are known so far.

    bits: {user: mask}; crowds: {kind: mask of its users}; inputs: {node: a tuple (mask, nodes) for each
    leaf of its rule: what rows give outright, and what is read}; order: the nodes, each behind those
    that it reads, but for rings; readers: {node: those that read it}; masks: {node: mask}.
    """

    def __init__(self, tables, index, users):
        self.tables = tables
        self.index = index
        self.bits = {user: 1 << k for k, user in enumerate(users)}
        self.crowds = {}
        for user in users:
            self.crowds[user[0]] = self.crowds.get(user[0], 0) | self.bits[user]
        self.inputs = {}
        self.order = []
        self.readers = {}
        self.masks = {}

    def visit(self, root):
        """Put a node, and ahead of it all that it reads, into the order."""
        way = []
        if root not in self.inputs:
            way.append((root, self.look_at(root)))
        while way:
            node, waiting = way[-1]
            while waiting and waiting[-1] in self.inputs:
                waiting.pop()
            if waiting:
                ahead = waiting.pop()
                way.append((ahead, self.look_at(ahead)))
            else:
                way.pop()
                self.order.append(node)

    def look_at(self, node):
        """Keep the inputs of a node, and return the nodes that it reads."""
        thing, relation = node
        self.inputs[node] = []
        found = []
        for leaf in self.tables.leaves[(thing[0], relation)]:
            nodes = self.index.read_by(thing, relation, leaf)
            given = self.given(node) if leaf[0] == "direct" else 0
            self.inputs[node].append((given, nodes))
            found.extend(nodes)
        for other in found:
            self.readers.setdefault(other, {})[node] = True
        return found

    def given(self, node):
        """Return the mask of those to whom rows give a node outright."""
        mask = 0
        for user in self.index.ones.get(node, {}):
            mask |= self.bits.get(user, 0)
        for kind in self.index.alls.get(node, {}):
            mask |= self.crowds.get(kind, 0)
        return mask

    def layers(self):
        """Return the nodes of each level, in their order."""
        levels = self.tables.levels()
        found = [[] for _ in range(len(self.tables.rights) + 1)]
        for node in self.order:
            found[levels[(node[0][0], node[1])]].append(node)
        return found

    def settle(self, layer):
        """Find the masks of all nodes of a level, those of the lower ones being known."""
        places = {node: k for k, node in enumerate(layer)}
        queue = list(range(len(layer)))
        queued = [True] * len(layer)
        while queue:
            # The first one of the order is next, so that a node mostly waits until what it reads is done.
            place = heappop(queue)
            queued[place] = False
            node = layer[place]
            mask = self.mask_by_rule(node)
            if mask == self.masks.get(node, 0):
                continue
            self.masks[node] = mask
            for reader in self.readers.get(node, {}):
                place = places.get(reader)
                if place is not None and not queued[place]:
                    queued[place] = True
                    heappush(queue, place)

    def mask_by_rule(self, node):
        """Return the mask that the rule of a node gives by the masks that are known."""
        found = []
        for given, nodes in self.inputs[node]:
            mask = given
            for other in nodes:
                mask |= self.masks.get(other, 0)
            found.append(mask)
        if not any(found):
            return 0
        return mask_of_shape(self.tables.shapes[(node[0][0], node[1])], found)


def mask_of_shape(shape, masks):
    """Return the mask that the shape of a rule gives by the masks of its leaves."""
    if isinstance(shape, int):
        return masks[shape]
    mask = mask_of_shape(shape[1], masks)
    for part in shape[2:]:
        if shape[0] == "either":
            mask |= mask_of_shape(part, masks)
        elif mask == 0:
            return 0
        elif shape[0] == "both":
            mask &= mask_of_shape(part, masks)
        else:
            mask &= ~mask_of_shape(part, masks)
    return mask
