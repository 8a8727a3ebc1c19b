"""The steps by which a company comes to a right, from what is known of how it has grown."""

from heapq import heappop, heappush

from relatedrights.nets import nodes_read


class Way:
    """The puts that one right of a user needs; a NEED is (node, place of the user) [growth.py].

    queue: the needs, the last to come first; puts: {row: (number of the event that has opened it, member)}.
    """

    def __init__(self, growth, node, user):
        self.growth = growth
        self.queue = []
        self.seen = {}
        self.puts = {}
        self.need(node, growth.people.index(user))

    def steps(self):
        """Return the steps."""
        while self.queue:
            number, node, place = heappop(self.queue)
            rule = self.growth.tables.kinds[node[0][0]][node[1]]
            for other, row in self.reason(node, rule, place, -number):
                if other is not None:
                    self.need(other, place)
                if row is not None:
                    self.put(row)
        # What has been open for longer needs less; rows that are there need no step.
        puts = sorted([(number, member, row) for row, (number, member) in self.puts.items()])
        return [(member, ("put", row)) for _, member, row in puts if not self.growth.index.has(row)]

    def need(self, node, place):
        """Add a need, if it is a new one."""
        if (node, place) not in self.seen:
            self.seen[(node, place)] = True
            heappush(self.queue, (-self.growth.came[(node, place)], node, place))

    def put(self, row):
        """Add a put, and what some member needs for it."""
        growth = self.growth
        thing, relation, _ = row
        number = growth.openings[(thing, relation)]
        right = growth.rules[(thing[0], relation)][0]
        for place in range(growth.members.bit_length()):
            if growth.came.get(((thing, right), place), number) < number:
                self.puts[row] = (number, growth.people[place])
                self.need((thing, right), place)
                return

    def reason(self, node, rule, place, number):
        """Return by what a part of the rule of a node holds ahead of an event, as tuples (node, row), or None.

        In each tuple there may be None in the place of a node, or of a row that must be put.
        """
        if rule[0] == "either":
            for part in rule[1]:
                found = self.reason(node, part, place, number)
                if found is not None:
                    return found
            return None
        if rule[0] == "both":
            joined = []
            for part in rule[1]:
                found = self.reason(node, part, place, number)
                if found is None:
                    return None
                joined.extend(found)
            return joined
        return self.reason_of_leaf(node, rule, place, number)

    def reason_of_leaf(self, node, leaf, place, number):
        """Return the same for a part without parts."""
        growth = self.growth
        thing, right = node
        kind, user = thing[0], growth.people[place]
        if leaf[0] == "direct":
            subjects = growth.index.plain(kind, right).get(thing, {})
            if ("one", user) in subjects or ("all", user[0]) in subjects:
                return []
        for other in nodes_read(growth.index, thing, right, leaf):
            if growth.came.get((other, place), number) < number:
                return [(other, None)]
        relation = right if leaf[0] == "direct" else leaf[1]
        if leaf[0] == "same" or growth.openings.get((thing, relation), number) >= number:
            return None
        if leaf[0] == "direct":
            ones, alls, _ = growth.tables.forms[kind][right]
            if user[0] in ones or user[0] in alls:
                return [(None, (thing, right, ("one", user) if user[0] in ones else ("all", user[0])))]
        for far, name in growth.told_if_open(kind, right, leaf):
            other = growth.first.get((far, name, place))
            if other is not None and growth.came[(other, place)] < number:
                subject = ("who", other[0], name) if leaf[0] == "direct" else ("one", other[0])
                return [(other, (thing, relation, subject))]
        return None
