"""Making papers: a reason for each right that a user has, a want for each one that it has not."""

from relatedrights.nets import UserNet, nodes_read
from relatedrights.steps import StepReader


class Prover:
    """Makes the paper that shows, for one user, whether it has a root; a NODE is a right to a thing.

    ranks: {node: rank}, for the nodes that the user has among all that the root leads to. had and lost:
    the nodes that the paper is to show as known and as missing.
    """

    def __init__(self, tables, index, user, root):
        self.tables = tables
        self.index = index
        self.user = user
        self.rounds = UserNet(tables, index, user, [root]).ranks()
        self.reader = StepReader(tables, index, user)
        self.root = root
        self.had = {root: True}
        self.lost = {root: True}

    def level(self, node):
        """Return the level of the right of a node."""
        return self.tables.level(node[0][0], node[1])

    def rule(self, node):
        """Return the rule of the right of a node."""
        return self.tables.kinds[node[0][0]][node[1]]

    def paper(self):
        """Return the steps that the root needs, level by level, its own one behind all others."""
        steps = []
        for level in range(self.level(self.root), -1, -1):
            # What comes in a later round rests on what comes in earlier ones, so it is looked at ahead of these.
            late = sorted([(-number, node) for node, number in self.rounds.items() if self.level(node) == level])
            for number, node in late:
                if node in self.had:
                    reason = self.reason(node, self.rule(node), -number)
                    steps.append(("has", node[0], node[1], reason))
                    self.note(steps[-1])
            entries = self.lacking(level)
            if entries:
                steps.append(("lacks", tuple(entries)))
        return steps[::-1]

    def note(self, step):
        """Note what a step rests on, as what the paper is to show, too."""
        self.reader.read(step)
        self.had.update(self.reader.known)
        self.lost.update(self.reader.missing)

    def lacking(self, level):
        """Return the entries of what is to be shown as missing on a level, and of what these rest on there."""
        entries = []
        done = {}
        waiting = [node for node in self.lost if node not in self.rounds and self.level(node) == level]
        while waiting:
            node = waiting.pop()
            if node in done:
                continue
            done[node] = True
            entries.append((node[0], node[1], self.want(node, self.rule(node))))
            self.note(("lacks", tuple(entries[-1:])))
            waiting.extend([other for other in self.reader.missing if self.level(other) == level])
        return entries

    def comes(self, node, limit):
        """Return whether a node comes ahead of the round with this number, with None in any round."""
        number = self.rounds.get(node)
        return number is not None and (limit is None or number < limit)

    def reason(self, node, rule, limit):
        """Return a reason for a part of the rule of a node by what comes ahead of a round, or None."""
        word = rule[0]
        if word == "direct":
            return self.row(node, limit)
        if word == "same":
            return ("same",) if self.comes((node[0], rule[1]), limit) else None
        if word == "through":
            for other, relation in nodes_read(self.index, node[0], node[1], rule):
                if self.comes((other, relation), limit):
                    return ("to", other)
            return None
        if word == "but":
            inner = self.reason(node, rule[1], limit)
            want = self.want(node, rule[2])
            return None if inner is None or want is None else ("but", inner, want)
        found = [self.reason(node, part, limit) for part in rule[1]]
        if word == "both":
            return None if None in found else ("parts", tuple(found))
        return first_told(found)

    def row(self, node, limit):
        """Return a reason for the direct part of the rule of a node, or None."""
        thing, relation = node
        for subject in (("one", self.user), ("all", self.user[0])):
            if subject in self.index.plain(thing[0], relation).get(thing, {}):
                return ("row", subject)
        for subject in self.index.whos(thing[0], relation).get(thing, {}):
            if self.comes((subject[1], subject[2]), limit):
                return ("row", subject)
        return None

    def want(self, node, rule):
        """Return a want for a part of the rule of a node, or None if the part holds."""
        word = rule[0]
        if word == "direct":
            return ("none",) if self.row(node, None) is None else None
        if word == "same" or word == "through":
            read = nodes_read(self.index, node[0], node[1], rule)
            return None if any([other in self.rounds for other in read]) else ("none",)
        if word == "but":
            want = self.want(node, rule[1])
            if want is not None:
                return ("first", want)
            reason = self.reason(node, rule[2], None)
            return None if reason is None else ("second", reason)
        found = [self.want(node, part) for part in rule[1]]
        if word == "either":
            return None if None in found else ("parts", tuple(found))
        return first_told(found)


def first_told(found):
    """Return ("part", k, what is told) for the first of some reasons or wants that is told, or None."""
    for k, told in enumerate(found):
        if told is not None:
            return ("part", k, told)
    return None
