"""What a company can come to by its own puts, in a schema without a but; a NODE is a right to a thing.

Nobody has a right to what no row names, so it is enough to follow the things that rows name. A relation of
a thing is OPEN once a member may put its rows: from the next round on it has them all, whatever they tell.
"""

from relatedrights.nets import nodes_read
from relatedrights.rules import leaves_of


class Growth:
    """The rights of some people, users, by masks with a bit for each of them, from round to round.

    masks: {node: mask}; some: {(kind, right): the mask of those who have it to some thing}; ready: what is to
    be open in the next round. Events are numbered: came is {(node, place of the user): number} for rights,
    openings {(thing, relation): number}; first is {(kind, right, place): the first such node that the user had}.
    """

    def __init__(self, tables, rules, index, company, users):
        self.tables = tables
        self.rules = rules
        self.index = index
        self.people = list({user: True for user in (*company, *users)})
        self.members = (1 << len(company)) - 1
        self.puts = {}
        for (kind, relation), (put, _) in rules.items():
            self.puts.setdefault((kind, put), []).append(relation)
        things = index.things()
        self.leaves = {right: leaves_of(tables.kinds[right[0]][right[1]]) for right in tables.rights()}
        self.readers = {}
        self.watchers = {}
        self.masks = {(thing, right): 0 for thing in things for right in tables.bits[thing[0]]}
        self.some = {right: 0 for right in tables.rights()}
        self.ready = []
        self.came = {}
        self.openings = {}
        self.first = {}
        for node in self.masks:
            for leaf in self.leaves[(node[0][0], node[1])]:
                for other in nodes_read(index, node[0], node[1], leaf):
                    self.readers.setdefault(other, []).append(node)
        self.settle(list(self.masks))

    def has(self, node, user):
        """Return whether a user has a node by now."""
        return self.masks.get(node, 0) >> self.people.index(user) & 1 == 1

    def rounds_to(self, node, user):
        """Go on until a user has a node; return the number of rounds, or None if it never comes."""
        number = 0
        while not self.has(node, user):
            if not self.ready:
                return None
            self.go_on()
            number += 1
        return number

    def go_on(self):
        """Do all puts of a round."""
        ready = self.ready
        self.ready = []
        waiting = []
        for thing, relation in ready:
            self.openings[(thing, relation)] = len(self.came) + len(self.openings)
            for right in self.tables.bits[thing[0]]:
                for leaf in self.leaves[(thing[0], right)]:
                    if leaf[0] != "same" and relation == (right if leaf[0] == "direct" else leaf[1]):
                        waiting.append((thing, right))
                        for other in self.told_if_open(thing[0], right, leaf):
                            self.watchers.setdefault(other, []).append((thing, right))
        self.settle(waiting)

    def told_if_open(self, kind, right, leaf):
        """Return the rights (kind, right) that a leaf of the rule of a right can read, once it is open."""
        if leaf[0] == "direct":
            return list(self.tables.forms[kind][right][2])
        return [(far, leaf[2]) for far in self.tables.links[kind][leaf[1]]]

    def settle(self, waiting):
        """Find all masks, if those of some nodes may have grown."""
        while waiting:
            node = waiting.pop()
            thing, right = node
            old = self.masks[node]
            mask = old | self.mask_by(node, self.tables.kinds[thing[0]][right])
            if mask != old:
                self.masks[node] = mask
                self.note(node, mask & ~old)
                waiting.extend(self.readers.get(node, ()))
                if mask & ~self.some[(thing[0], right)]:
                    self.some[(thing[0], right)] |= mask
                    waiting.extend(self.watchers.get((thing[0], right), ()))

    def note(self, node, mask):
        """Note that some users have come to have a node."""
        thing, right = node
        kind = thing[0]
        for place in range(len(self.people)):
            if mask >> place & 1:
                self.came[(node, place)] = len(self.came) + len(self.openings)
                self.first.setdefault((kind, right, place), node)
        if mask & self.members and not (self.masks[node] & ~mask & self.members):
            for relation in self.puts.get((kind, right), ()):
                self.ready.append((thing, relation))

    def mask_by(self, node, rule):
        """Return the mask that a part of the rule of a node gives by what is had by now."""
        thing, right = node
        if rule[0] == "either" or rule[0] == "both":
            mask = self.mask_by(node, rule[1][0])
            for part in rule[1][1:]:
                more = self.mask_by(node, part)
                mask = mask | more if rule[0] == "either" else mask & more
            return mask
        mask = self.mask_outright(node) if rule[0] == "direct" else 0
        for other in nodes_read(self.index, thing, right, rule):
            mask |= self.masks[other]
        if rule[0] != "same" and (thing, right if rule[0] == "direct" else rule[1]) in self.openings:
            for other in self.told_if_open(thing[0], right, rule):
                mask |= self.some[other]
        return mask

    def mask_outright(self, node):
        """Return the mask of those whom rows of a node tell outright, or can tell, if it is open."""
        thing, right = node
        ones, alls, _ = self.tables.forms[thing[0]][right]
        subjects = self.index.plain(thing[0], right).get(thing, {})
        mask = 0
        for place, user in enumerate(self.people):
            if node in self.openings and (user[0] in ones or user[0] in alls):
                mask |= 1 << place
            elif ("one", user) in subjects or ("all", user[0]) in subjects:
                mask |= 1 << place
        return mask
