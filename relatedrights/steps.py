"""The steps of papers: what one must be like, and what it rests on."""

from relatedrights.nets import nodes_read
from relatedrights.rows import is_row, is_thing


def is_place(value, parts):
    """Return whether any object is the place of one of some parts."""
    return type(value) is int and 0 <= value < len(parts)


def is_worded(value, word, many):
    """Return whether any object is a tuple of so many entries that begins with a word."""
    return isinstance(value, tuple) and len(value) == many and isinstance(value[0], str) and value[0] == word


class StepReader:
    """Reads steps for one user.

    Of the step that was read last: known and missing, the rights (thing, relation) that it rests on, by
    what must have been shown of them; shown, those that it shows; lacks, whether as missing ones.
    """

    def __init__(self, tables, index, user):
        self.tables = tables
        self.index = index
        self.user = user
        self.known = {}
        self.missing = {}
        self.shown = {}
        self.lacks = False

    def read(self, step):
        """Return whether any object is a step that fits all rules, if what it rests on has been shown."""
        self.known = {}
        self.missing = {}
        self.shown = {}
        self.lacks = is_worded(step, "lacks", 2)
        if not self.lacks:
            return is_worded(step, "has", 4) and self.read_entry(step[1:])
        if not isinstance(step[1], tuple) or not step[1]:
            return False
        for entry in step[1]:
            if not isinstance(entry, tuple) or len(entry) != 3 or not self.read_entry(entry):
                return False
        return True

    def read_entry(self, entry):
        """Return whether a tuple of three is a thing, a right of it, and what fits its rule."""
        thing, relation, told = entry
        if not is_thing(self.tables, thing) or not isinstance(relation, str):
            return False
        if relation not in self.tables.bits[thing[0]]:
            return False
        self.shown[(thing, relation)] = True
        rule = self.tables.kinds[thing[0]][relation]
        if self.lacks:
            return self.read_want((thing, relation), rule, told)
        return self.read_reason((thing, relation), rule, told)

    def read_reason(self, node, rule, reason):
        """Return whether any object is a reason that fits a part of the rule of a right to a thing."""
        word = rule[0]
        if word == "direct":
            return is_worded(reason, "row", 2) and self.read_row(node, reason[1])
        if word == "same":
            self.known[(node[0], rule[1])] = True
            return is_worded(reason, "same", 1)
        if word == "through":
            return is_worded(reason, "to", 2) and self.read_link(node[0], rule, reason[1])
        if word == "either":
            if not is_worded(reason, "part", 3) or not is_place(reason[1], rule[1]):
                return False
            return self.read_reason(node, rule[1][reason[1]], reason[2])
        if word == "but":
            if not is_worded(reason, "but", 3) or not self.read_reason(node, rule[1], reason[1]):
                return False
            return self.read_want(node, rule[2], reason[2])
        if not is_worded(reason, "parts", 2) or not isinstance(reason[1], tuple) or len(reason[1]) != len(rule[1]):
            return False
        return all([self.read_reason(node, part, inner) for part, inner in zip(rule[1], reason[1])])

    def read_row(self, node, subject):
        """Return whether any object is the subject of a row of a right to a thing, and tells the user."""
        row = (node[0], node[1], subject)
        if not is_row(self.tables, row) or not self.index.has(row):
            return False
        if subject[0] == "who":
            self.known[(subject[1], subject[2])] = True
            return True
        return subject == ("one", self.user) or subject == ("all", self.user[0])

    def read_link(self, thing, rule, other):
        """Return whether any object is a thing to which a thing is linked, as a through part wants it."""
        if not is_thing(self.tables, other):
            return False
        if ("one", other) not in self.index.plain(thing[0], rule[1]).get(thing, {}):
            return False
        self.known[(other, rule[2])] = True
        return True

    def read_want(self, node, rule, want):
        """Return whether any object is a want that fits a part of the rule of a right to a thing."""
        word = rule[0]
        if word == "direct" or word == "same" or word == "through":
            return is_worded(want, "none", 1) and self.read_none(node, rule)
        if word == "both":
            if not is_worded(want, "part", 3) or not is_place(want[1], rule[1]):
                return False
            return self.read_want(node, rule[1][want[1]], want[2])
        if word == "but":
            if is_worded(want, "first", 2):
                return self.read_want(node, rule[1], want[1])
            return is_worded(want, "second", 2) and self.read_reason(node, rule[2], want[1])
        if not is_worded(want, "parts", 2) or not isinstance(want[1], tuple) or len(want[1]) != len(rule[1]):
            return False
        return all([self.read_want(node, part, inner) for part, inner in zip(rule[1], want[1])])

    def read_none(self, node, rule):
        """Return whether nothing that the rows tell the user outright makes a part without parts hold."""
        thing, relation = node
        self.missing.update({other: True for other in nodes_read(self.index, thing, relation, rule)})
        if rule[0] != "direct":
            return True
        subjects = self.index.plain(thing[0], relation).get(thing, {})
        return ("one", self.user) not in subjects and ("all", self.user[0]) not in subjects
