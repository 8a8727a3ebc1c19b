"""Checked schemas, and what their rules tell, in tables."""

from relatedrights.errors import CircularBut, InvalidKind, InvalidRelation, InvalidSchema
from relatedrights.rules import (
    Reader, is_link_like, is_link_rule, is_thing_kind, kinds_told, leaves_of, shape_of,
)
from relatedrights.words import is_name, is_tuple

MOST_KINDS = 6
MOST_RELATIONS = 6

# The tables of the schema that was read last.
LAST = None


class Tables:
    """What the rules of a schema tell; a set of rights is a number with a bit for each of them.

    kinds: the schema as {kind: {relation: rule}}, in its order. By kind: bits, {right: the set of it
    alone}; links, {link: the kinds that it leads to}; forms, {relation: a tuple of the kinds that its rows
    tell by "one", of those by "all", and of the rights (kind, relation) by "who", each a dict of True}. By
    the place of a right in the schema: named, the set of the rights that it names, and taken, the set of
    those that it names in the second part of a but. history: the history that was read last, or None.
    """

    def __init__(self, schema, kinds):
        self.schema = schema
        self.kinds = kinds
        self.bits = {}
        self.links = {}
        self.forms = {}
        self.named = []
        self.taken = []
        self.ranking = None
        self.shapes = {}
        self.history = None
        bit = 1
        for kind in kinds:
            bits = {}
            links = {}
            for name, rule in kinds[kind].items():
                if is_link_like(rule):
                    links[name] = kinds_told(rule)
                else:
                    bits[name] = bit
                    bit += bit
            self.bits[kind] = bits
            self.links[kind] = links

    def read_rules(self):
        """Read all rules, or raise InvalidSchema for the first one that is none."""
        reader = Reader(self.kinds, self.bits, self.links)
        for k, kind in enumerate(self.kinds):
            forms = {}
            for r, (name, rule) in enumerate(self.kinds[kind].items()):
                if name in self.links[kind]:
                    if not is_link_rule(self.kinds, rule):
                        raise InvalidSchema((k, r))
                    forms[name] = ({far: True for far in rule[1]}, {}, {})
                else:
                    named = reader.read_rule(kind, rule)
                    if named < 0:
                        raise InvalidSchema((k, r))
                    self.named.append(named)
                    self.taken.append(reader.taken)
                    forms[name] = reader.forms or ({}, {}, {})
            self.forms[kind] = forms

    def rights(self):
        """Return all rights, as tuples (kind, relation), in the order of the schema."""
        return [(kind, name) for kind in self.kinds for name in self.bits[kind]]

    def bare_kinds(self):
        """Return the bare kinds, ascending."""
        return sorted([kind for kind in self.kinds if not self.kinds[kind]])

    def depended_on(self, rights):
        """Return the set of the rights in a set, and of those on which these depend."""
        found = rights
        waiting = rights
        while waiting:
            named = self.named[waiting.bit_length() - 1]
            waiting ^= 1 << waiting.bit_length() - 1
            waiting |= named & ~found
            found |= named
        return found

    def level(self, kind, relation):
        """Return the level of a right."""
        if self.ranking is None:
            self.ranking = self.levels()
        return self.ranking[kind][relation]

    def levels(self):
        """Return {kind: {right: level}}."""
        found = {kind: {name: 0 for name in self.bits[kind]} for kind in self.kinds}
        rising = self.taking(-1)
        while rising:
            # What takes away what is not below a level stands above it, and so does all that depends on this.
            rising = self.naming(rising)
            for kind in self.kinds:
                for name, bit in self.bits[kind].items():
                    if rising & bit:
                        found[kind][name] += 1
            rising = self.taking(rising)
        return found

    def taking(self, rights):
        """Return the set of the rights that take away one of a set."""
        return sum([1 << k for k, taken in enumerate(self.taken) if taken & rights])

    def naming(self, rights):
        """Return the set of the rights in a set, and of those that depend on them."""
        found = rights
        more = rights
        while more:
            more = sum([1 << k for k, named in enumerate(self.named) if named & more and not found >> k & 1])
            found |= more
        return found

    def leaves_by(self, kind, relation):
        """Return a tuple of the different leaves of the rule of a right, and its shape [rules.shape_of]."""
        right = (kind, relation)
        if right not in self.shapes:
            rule = self.kinds[kind][relation]
            places = {}
            for leaf in leaves_of(rule):
                places.setdefault(leaf, len(places))
            self.shapes[right] = (list(places), shape_of(rule, places))
        return self.shapes[right]


def tables_of(schema):
    """Return the tables of a schema, or raise an error of a schema."""
    global LAST
    # Schemas are mostly asked for many times in a row, and reading one takes longer than most answers. It is
    # made up of tuples and strings alone, so what is equal to it is the same schema.
    last = LAST
    if last is not None and isinstance(schema, tuple) and schema == last.schema:
        return last
    tables = Tables(schema, kinds_of(schema))
    tables.read_rules()
    require_buts(tables)
    LAST = tables
    return tables


def kinds_of(schema):
    """Return {kind: {relation: rule}} for a schema whose rules may still be anything."""
    if not is_tuple(schema, 1, MOST_KINDS):
        raise InvalidSchema(())
    kinds = {}
    for k, row in enumerate(schema):
        if not isinstance(row, tuple) or len(row) != 2:
            raise InvalidSchema((k,))
        kind, entries = row
        if not is_name(kind) or kind in kinds or not isinstance(entries, tuple) or len(entries) > MOST_RELATIONS:
            raise InvalidSchema((k,))
        relations = {}
        for r, entry in enumerate(entries):
            if not isinstance(entry, tuple) or len(entry) != 2:
                raise InvalidSchema((k, r))
            name, rule = entry
            if not is_name(name) or name in relations:
                raise InvalidSchema((k, r))
            relations[name] = rule
        kinds[kind] = relations
    return kinds


def require_buts(tables):
    """Raise CircularBut for the first right that depends on itself as it may not."""
    found = [k for k, taken in enumerate(tables.taken) if taken and tables.depended_on(taken) >> k & 1]
    if found:
        for k, (kind, relation) in enumerate(tables.rights()):
            # A way may pass a right more than once, so any second part on a way back counts.
            below = tables.depended_on(1 << k)
            if any([below >> near & 1 and tables.depended_on(tables.taken[near]) >> k & 1 for near in found]):
                raise CircularBut(kind, relation)


def is_right(tables, kind, relation):
    """Return whether any two objects are a kind that is not bare and a right of it."""
    return is_thing_kind(tables.kinds, kind) and isinstance(relation, str) and relation in tables.bits[kind]


def require_thing_kind(tables, kind):
    """Raise InvalidKind for any object that is not a kind that is not bare."""
    if not is_thing_kind(tables.kinds, kind):
        raise InvalidKind(kind)


def require_right(tables, kind, relation):
    """Raise InvalidRelation for any object that is no right of the kind."""
    if not isinstance(relation, str) or relation not in tables.bits[kind]:
        raise InvalidRelation(relation)
