"""The snapshots that lists of changes make of a state, and the rights of users in them."""

from relatedrights.worlds import Worlds


def changes_for(tables, lists, users):
    """Return lists of changes without those of rows that tell other users alone; users is a dict of True."""
    links = tables.links
    return [[change for change in changes for thing, relation, subject in (change[1],)
             if subject[0] != "one" or subject[1] in users or relation in links[thing[0]]] for changes in lists]


class Snapshots:
    """The snapshots behind 0, 1, 2 .. lists of changes, as worlds with these numbers [worlds.py].

    The index is that of snapshot 0; rows of things that are asked for get in it the patterns of the snapshots
    in which they are there. changes: {thing: a list of tuples (place of the list, change)}, of what matters
    for some users, of whom alone may be asked; seen: the things whose rows have their patterns, as a dict of True.
    """

    def __init__(self, tables, index, lists, users):
        self.tables = tables
        self.index = index
        self.many = len(lists) + 1
        self.changes = {}
        self.seen = {}
        for k, changes in enumerate(changes_for(tables, lists, users)):
            for change in changes:
                self.changes.setdefault(change[1][0], []).append((k, change))

    def truths(self, node, user):
        """Return for each snapshot whether a user has a right to a thing."""
        self.look_from(node[0])
        worlds = Worlds(self.tables, self.index, self.many, {})
        worlds.look_for([node], [user])
        digits = f"{worlds.worlds_of(node, user):b}"[::-1]
        return [digit == "1" for digit in digits] + [False] * (self.many - len(digits))

    def look_from(self, thing):
        """Find the patterns of the rows of a thing, and of all that it leads to in any snapshot."""
        waiting = [thing]
        while waiting:
            thing = waiting.pop()
            if thing not in self.seen:
                self.seen[thing] = True
                for row, pattern in self.patterns_of(thing).items():
                    self.index.put(row, pattern)
                waiting.extend(self.index.told_by(thing))

    def patterns_of(self, thing):
        """Return {row: the snapshots in which it is there} for the rows of a thing that changes tell."""
        every = (1 << self.many) - 1
        patterns = {}
        for k, (word, row) in self.changes.get(thing, ()):
            pattern = patterns.get(row)
            if pattern is None:
                pattern = every if self.index.has(row) else 0
            if pattern >> self.many - 1 != (1 if word == "put" else 0):
                pattern ^= every >> k + 1 << k + 1
            patterns[row] = pattern
        return patterns


def rights_changed_between(tables, index, lists, user):
    """Return the rights (thing, relation) that lists of changes give a user, and those that they take."""
    last = {row: word for changes in changes_for(tables, lists, {user: True}) for word, row in changes}
    patterns = {}
    for row, word in last.items():
        if index.has(row) != (word == "put"):
            patterns[row] = 2 if word == "put" else 1
    worlds = Worlds(tables, index, 2, patterns)
    things = sorted(list(index.readers_of([row[0] for row in patterns])))
    nodes = [(thing, name) for thing in things for name in tables.bits[thing[0]]]
    worlds.look_for(nodes, [user])
    held = [(node, worlds.worlds_of(node, user)) for node in nodes]
    return ([node for node, pattern in held if pattern == 2], [node for node, pattern in held if pattern == 1])
