"""Checked schemas, and what their rules tell, in tables."""

from relatedrights.errors import CircularBut, InvalidKind, InvalidRelation, InvalidSchema
from relatedrights.rules import (
    is_link_like, is_right, is_rule, is_thing_kind, leaves_of, rights_named, shape_of,
)
from relatedrights.words import is_name, is_tuple

MOST_KINDS = 6
MOST_RELATIONS = 6


class Tables:
    """What the rules of a schema tell; a right is a tuple (kind, relation).

    kinds: {kind: {relation: rule}}; rights: all rights; relations: {kind: its rights by name}, all of
    them in the order of the schema. By right: leaves, the different leaves of its rule; shapes, its
    rule with the places of these [rules.shape_of]; forms, its direct part as a dict of True; named and
    taken, the rights that it names, and those that it names in the second part of a but, likewise.
    """

    def __init__(self, kinds):
        self.kinds = kinds
        self.rights = []
        self.relations = {}
        self.leaves = {}
        self.shapes = {}
        self.forms = {}
        self.named = {}
        self.taken = {}
        for kind in kinds:
            self.relations[kind] = [name for name in kinds[kind] if not is_link_like(kinds[kind][name])]
            for name in self.relations[kind]:
                self.rights.append((kind, name))
        for right in self.rights:
            self.read_rule(right)

    def read_rule(self, right):
        """Fill in the tables of one right."""
        rule = self.kinds[right[0]][right[1]]
        places = {}
        self.forms[right] = {}
        self.named[right] = {}
        self.taken[right] = {}
        for leaf, taken in leaves_of(rule):
            places.setdefault(leaf, len(places))
            for other in rights_named(self.kinds, right[0], leaf):
                self.named[right][other] = True
                if taken:
                    self.taken[right][other] = True
        for leaf in places:
            if leaf[0] == "direct":
                self.forms[right] = {form: True for form in leaf[1]}
        self.leaves[right] = list(places)
        self.shapes[right] = shape_of(rule, places)

    def depended_on(self, right):
        """Return the rights on which a right depends, as a dict of True."""
        found = {}
        waiting = list(self.named[right])
        while waiting:
            other = waiting.pop()
            if other not in found:
                found[other] = True
                waiting.extend(list(self.named[other]))
        return found

    def levels(self):
        """Return {right: level}."""
        found = {right: 0 for right in self.rights}
        rising = True
        while rising:
            rising = False
            for right in self.rights:
                least = self.least_level(right, found)
                if least > found[right]:
                    found[right] = least
                    rising = True
        return found

    def least_level(self, right, levels):
        """Return the least level that the levels of the rights that it names leave to a right."""
        least = [levels[other] for other in self.named[right]]
        above = [levels[other] + 1 for other in self.taken[right]]
        return max([0] + least + above)


def tables_of(schema):
    """Return the tables of a schema, or raise an error of a schema."""
    kinds = kinds_of(schema)
    require_rules(kinds)
    tables = Tables(kinds)
    require_buts(tables)
    return tables


def kinds_of(schema):
    """Return {kind: {relation: rule}} for a schema whose rules may still be anything."""
    if not is_tuple(schema, 1, MOST_KINDS):
        raise InvalidSchema(())
    kinds = {}
    for k, row in enumerate(schema):
        if not is_kind_row(kinds, row):
            raise InvalidSchema((k,))
        kinds[row[0]] = relations_of(k, row[1])
    return kinds


def is_kind_row(kinds, row):
    """Return whether any object is a tuple of a name, none of these kinds, and a tuple of relations."""
    if not is_tuple(row, 2, 2) or not is_name(row[0]) or row[0] in kinds:
        return False
    return is_tuple(row[1], 0, MOST_RELATIONS)


def relations_of(k, entries):
    """Return {relation: rule} for the entries of row k."""
    relations = {}
    for r, entry in enumerate(entries):
        if not is_tuple(entry, 2, 2) or not is_name(entry[0]) or entry[0] in relations:
            raise InvalidSchema((k, r))
        relations[entry[0]] = entry[1]
    return relations


def require_rules(kinds):
    """Raise InvalidSchema for the first relation whose rule is none."""
    for k, kind in enumerate(kinds):
        for r, relation in enumerate(kinds[kind]):
            if not is_rule(kinds, kind, kinds[kind][relation]):
                raise InvalidSchema((k, r))


def require_buts(tables):
    """Raise CircularBut for the first right that depends on itself as it may not."""
    below = {right: tables.depended_on(right) for right in tables.rights}
    for right in tables.rights:
        for near in [right] + list(below[right]):
            # A way may pass a right more than once, so any second part on a way back counts.
            if any([right in below[far] for far in tables.taken[near]]):
                raise CircularBut(right[0], right[1])


def require_thing_kind(tables, kind):
    """Raise InvalidKind for any object that is not a kind that is not bare."""
    if not is_thing_kind(tables.kinds, kind):
        raise InvalidKind(kind)


def require_right(tables, kind, relation):
    """Raise InvalidRelation for any object that is no right of the kind."""
    if not is_right(tables.kinds, kind, relation):
        raise InvalidRelation(relation)
