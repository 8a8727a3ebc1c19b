"""Which rights one user has in a state, found as they are asked for."""

from relatedrights.plans import LOOSE, Plans

NOTHING = ()


class Asker:
    """What is known of the rights of one user; a NODE is a right to a thing, as a tuple (thing, relation).

    had: {node: whether the user has it}. While the nodes of a level are looked for, False there means
    "not yet" for those of this level: `queue` has the ones to be looked at, `again` those that read what
    has become True since they were, as a dict of True. readers: {node: those that read it while it was
    False, as a dict of True}.
    """

    def __init__(self, tables, index, user):
        self.tables = tables
        self.index = index
        self.plans = Plans(tables, index)
        self.own_subject = ("one", user)
        self.kind_subject = ("all", user[0])
        self.had = {}
        self.readers = {}
        self.queue = []
        self.again = {}
        self.height = 0

    def has(self, thing, relation):
        """Return whether the user has a right to a thing."""
        node = (thing, relation)
        known = self.had.get(node)
        if known is not None:
            return known
        plan = self.plans.plan(thing[0], relation)
        if plan[0] != "direct" and plan[0] != "never":
            return self.find_out(node)
        self.had[node] = self.holds(plan, thing, node)
        return self.had[node]

    def tells_outright(self, thing, relation):
        """Return whether a row of a right to a thing tells the user, by itself or by its kind."""
        subjects = self.index.plain(thing[0], relation).get(thing, NOTHING)
        return self.own_subject in subjects or self.kind_subject in subjects

    def things_seen(self):
        """Return the things whose rows the answers so far rest on, as a dict of True."""
        return {thing: True for thing, _ in self.had}

    def find_out(self, root):
        """Return whether the user has a right of which nothing is known yet."""
        # A right of a lower level is found to the end while one of a higher level waits for it.
        outer = (self.queue, self.again, self.height)
        self.queue = [root]
        self.again = {}
        self.height = self.tables.level(root[0][0], root[1])
        self.had[root] = False
        while self.queue or self.again:
            if not self.queue:
                # What was met for the first time comes first, so that others are looked at again as seldom as can be.
                self.queue = list(self.again)
                self.again = {}
            node = self.queue.pop()
            if not self.had[node] and self.holds(self.plans.plan(node[0][0], node[1]), node[0], node):
                self.tell(node)
        self.queue, self.again, self.height = outer
        return self.had[root]

    def tell(self, root):
        """Note that the user has a right, and let those that read it be looked at again."""
        waiting = [root]
        while waiting:
            node = waiting.pop()
            self.had[node] = True
            for reader in self.readers.pop(node, NOTHING):
                if self.had[reader]:
                    continue
                if self.plans.plan(reader[0][0], reader[1])[0] in LOOSE:
                    waiting.append(reader)
                else:
                    self.again[reader] = True

    def holds(self, plan, thing, node):
        """Return whether a plan, which is or stands in that of a node, holds by what is known."""
        word = plan[0]
        if word == "direct":
            subjects = plan[1].get(thing, NOTHING)
            return self.own_subject in subjects or self.kind_subject in subjects
        if word == "some" or word == "either":
            for part in plan[1]:
                if self.holds(part, thing, node):
                    return True
            return False
        if word == "same":
            return self.looks_up(thing, plan[1], node)
        if word == "through":
            for subject in plan[1].get(thing, NOTHING):
                if self.looks_up(subject[1], plan[2], node):
                    return True
            return False
        if word == "who":
            for subject in plan[1].get(thing, NOTHING):
                if self.looks_up(subject[1], subject[2], node):
                    return True
            return False
        if word == "but":
            return self.holds(plan[1], thing, node) and not self.holds(plan[2], thing, node)
        if word == "both":
            for part in plan[1]:
                if not self.holds(part, thing, node):
                    return False
            return True
        return False

    def looks_up(self, thing, relation, reader):
        """Return whether the user has a right that a node reads, as far as is known."""
        node = (thing, relation)
        known = self.had.get(node)
        if known is None:
            known = self.meet(node)
        if not known:
            self.readers.setdefault(node, {})[reader] = True
        return known

    def meet(self, node):
        """Return whether the user has a right that is read for the first time, False if that is for later."""
        thing, relation = node
        plan = self.plans.plan(thing[0], relation)
        if plan[0] == "direct" or plan[0] == "never":
            self.had[node] = self.holds(plan, thing, node)
        elif self.tables.level(thing[0], relation) < self.height:
            return self.find_out(node)
        else:
            self.had[node] = False
            self.queue.append(node)
        return self.had[node]
