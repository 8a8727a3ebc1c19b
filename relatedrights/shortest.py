"""The shortest steps by which a company makes some rows what gives a right.

The worlds [worlds.py] are the states with some of these rows changed: bit k of a number stands for row k.
"""

from relatedrights.rulings import right_for
from relatedrights.worlds import Worlds, half_patterns


class Toggling:
    """The steps that may be done in all worlds.

    moves: tuples (step, k, pattern), ascending: a step that changes row k, and where it may be done.
    """

    def __init__(self, tables, rules, index, company, rows):
        self.tables = tables
        self.index = index
        self.company = company
        self.halves = half_patterns(len(rows))
        self.patterns = {}
        self.needs = []
        every = (1 << (1 << len(rows))) - 1
        for k, row in enumerate(rows):
            there = every ^ self.halves[k] if index.has(row) else self.halves[k]
            self.patterns[row] = there
            for word in ("put", "take"):
                right = right_for(rules, (word, row))
                if right is not None:
                    self.needs.append(((word, row), k, right, there if word == "take" else every ^ there))
        for row in rows:
            index.put(row)
        self.moves = []

    def shortest(self, node, user):
        """Return the shortest list of steps behind which a user has a node, the least of several, or None."""
        worlds = Worlds(self.tables, self.index, 1 << len(self.halves), self.patterns)
        nodes = {(change[1][0], right): True for change, _, right, _ in self.needs}
        nodes[node] = True
        worlds.look_for(list(nodes), list({member: True for member in (*self.company, user)}))
        for member in self.company:
            for change, k, right, where in self.needs:
                where &= worlds.worlds_of((change[1][0], right), member)
                self.moves.append(((member, change), k, where))
        self.moves = sorted(self.moves)
        return self.walk(self.layers(worlds.worlds_of(node, user)))

    def layers(self, goal):
        """Return the patterns of the worlds that are 0, 1, 2 .. steps from a goal, until world 0 is in one, or None."""
        found = [goal]
        seen = goal
        while found[-1]:
            if found[-1] & 1:
                return found
            ahead = 0
            for _, k, where in self.moves:
                ahead |= self.without(found[-1], k) & where
            found.append(ahead & ~seen)
            seen |= ahead
        return None

    def without(self, pattern, k):
        """Return the worlds from which a change of row k leads into a pattern."""
        return (pattern & self.halves[k]) >> (1 << k) | (pattern & ~self.halves[k]) << (1 << k)

    def walk(self, layers):
        """Return the least steps from world 0 through layers, None if there are none."""
        if layers is None:
            return None
        steps = []
        world = 0
        for layer in layers[-2::-1]:
            for step, k, where in self.moves:
                if where >> world & 1 and layer >> (world ^ 1 << k) & 1:
                    steps.append(step)
                    world ^= 1 << k
                    break
        return steps
