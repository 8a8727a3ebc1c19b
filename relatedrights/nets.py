"""All that rights to things read: the ground of numbers and steps that are built in rounds.

A NODE is a right to a thing, as a tuple (thing, relation); the LEAVES of its rule have numbers, and its
SHAPE is the rule over these [Tables.leaves_by].
"""

from relatedrights.askers import Asker


def nodes_read(index, thing, relation, leaf):
    """Return the nodes that a leaf of the rule of a right reads, each once."""
    if leaf[0] == "direct":
        return [(subject[1], subject[2]) for subject in index.whos(thing[0], relation).get(thing, {})]
    if leaf[0] == "same":
        return [(thing, leaf[1])]
    return [(subject[1], leaf[2]) for subject in index.plain(thing[0], leaf[1]).get(thing, {})]


def holds_really(tables, asker, node, shape):
    """Return whether a part of the shape of a node holds by what a user really has."""
    if isinstance(shape, int):
        thing, relation = node
        leaf = tables.leaves_by(thing[0], relation)[0][shape]
        if leaf[0] == "direct" and asker.tells_outright(thing, relation):
            return True
        return any([asker.has(other, name) for other, name in nodes_read(asker.index, thing, relation, leaf)])
    truths = [holds_really(tables, asker, node, part) for part in shape[1:]]
    if shape[0] == "but":
        return truths[0] and not truths[1]
    return all(truths) if shape[0] == "both" else any(truths)


class Net:
    """Some nodes, and all that they lead to.

    reads: {node: for each leaf of its rule the nodes that it reads}; readers: {node: a list of tuples
    (reader, number of the leaf by which it reads the node)}.
    """

    def __init__(self, tables, index, roots):
        self.tables = tables
        self.index = index
        self.reads = {}
        self.readers = {root: [] for root in roots}
        waiting = list(self.readers)
        while waiting:
            node = waiting.pop()
            thing, relation = node
            leaves, _ = tables.leaves_by(thing[0], relation)
            self.reads[node] = [nodes_read(index, thing, relation, leaf) for leaf in leaves]
            for k, nodes in enumerate(self.reads[node]):
                for other in nodes:
                    if other not in self.readers:
                        self.readers[other] = []
                        waiting.append(other)
                    self.readers[other].append((node, k))

    def shape(self, node):
        """Return the shape of the rule of a node."""
        return self.tables.leaves_by(node[0][0], node[1])[1]

    def leaf(self, node, k):
        """Return leaf k of the rule of a node."""
        return self.tables.leaves_by(node[0][0], node[1])[0][k]

    def outright(self, node, user):
        """Return for each leaf of the rule of a node how many different subjects of rows tell the user."""
        thing, relation = node
        subjects = self.index.plain(thing[0], relation).get(thing, {})
        told = len([subject for subject in (("one", user), ("all", user[0])) if subject in subjects])
        leaves, _ = self.tables.leaves_by(thing[0], relation)
        return [told if leaf[0] == "direct" else 0 for leaf in leaves]


class UserNet:
    """A net for one user, in which it is known what buts take away.

    given: {node: for each leaf the number of subjects that tell the user outright}; shapes: {node: its
    shape without buts: each is its first part, or None where the user has what the second part tells}.
    """

    def __init__(self, tables, index, user, roots):
        self.net = Net(tables, index, roots)
        self.asker = Asker(tables, index, user)
        self.given = {node: self.net.outright(node, user) for node in self.net.reads}
        self.shapes = {node: self.without_buts(node, self.net.shape(node)) for node in self.net.reads}

    def without_buts(self, node, shape):
        """Return a part of the shape of a node without buts, None if it can not hold."""
        if isinstance(shape, int):
            return shape
        if shape[0] == "but":
            taken = holds_really(self.net.tables, self.asker, node, shape[2])
            return None if taken else self.without_buts(node, shape[1])
        parts = [self.without_buts(node, part) for part in shape[1:]]
        left = [part for part in parts if part is not None]
        if not left or (shape[0] == "both" and len(left) < len(parts)):
            return None
        return (shape[0], *left)

    def ranks(self):
        """Return {node: rank} for the nodes that the user has."""
        found = {}
        came = {node: [many > 0 for many in self.given[node]] for node in self.given}
        fresh = list(came)
        number = 0
        while fresh:
            number += 1
            new = [node for node in fresh if holds_by(self.shapes[node], came[node])]
            found.update({node: number for node in new})
            below = {}
            for node in new:
                for reader, leaf in self.net.readers[node]:
                    came[reader][leaf] = True
                    if reader not in found:
                        below[reader] = True
            fresh = list(below)
        return found


def holds_by(shape, truths):
    """Return whether a shape without buts holds by the truths of its leaves."""
    if shape is None:
        return False
    if isinstance(shape, int):
        return truths[shape]
    if shape[0] == "both":
        return all([holds_by(part, truths) for part in shape[1:]])
    return any([holds_by(part, truths) for part in shape[1:]])
