"""Two schemas: whether they give the same rights in each state, and what comes of one in the place of the other."""

from relatedrights.configurations import Configurations, numbers_in
from relatedrights.cuts import paths_that_can_go, schema_without
from relatedrights.errors import Mismatch, TooLarge
from relatedrights.examples import Example
from relatedrights.holders import Holders
from relatedrights.rows import Index, index_of, is_row
from relatedrights.rules import is_user_kind
from relatedrights.tables import is_right, require_right, require_thing_kind, tables_of

MOST_CONFIGURATIONS = 512


def alike(schema, other):
    """Return whether two schemas give each user the same rights in each state [10.1]."""
    return parting(schema, other) is None


def parting(schema, other):
    """Return a tuple (state, thing, relation, user), where one schema alone gives the right, or None [10.1]."""
    tables = tables_of(schema)
    second = tables_of(other)
    if not have_same_rows(tables, second):
        raise Mismatch("other")
    return parting_of(tables, second)


def have_same_rows(tables, other):
    """Return whether two schemas have the same rows."""
    if list(tables.kinds) != list(other.kinds):
        return False
    for kind in tables.kinds:
        if list(tables.kinds[kind]) != list(other.kinds[kind]) or tables.links[kind] != other.links[kind]:
            return False
    return tables.forms == other.forms


def parting_of(tables, other):
    """Return what `parting` does for two schemas with the same rows, or raise TooLarge."""
    found = [Configurations([tables, other], bare) for bare in tables.bare_kinds()]
    if any([configurations.number() > MOST_CONFIGURATIONS for configurations in found]):
        raise TooLarge(MOST_CONFIGURATIONS)
    for configurations in found:
        configurations.lay_out()
        live = configurations.greatest()
        for kind, right in tables.rights():
            first, second = [rights[kind][right] for rights in configurations.having]
            numbers = numbers_in(live[kind] & (first ^ second))
            if numbers:
                example = Example(configurations, live)
                example.show((kind, numbers[0]))
                return (list(example.made), (kind, numbers[0]), right, example.user)
    return None


def without_part(schema, kind, relation, path):
    """Return the schema in which a part is left out of the rule of a right [10.2]."""
    tables = tables_of(schema)
    require_thing_kind(tables, kind)
    require_right(tables, kind, relation)
    if not isinstance(path, tuple) or not all([isinstance(k, int) and not isinstance(k, bool) for k in path]):
        raise Mismatch("path")
    if path not in paths_that_can_go(tables.kinds[kind][relation]):
        raise Mismatch("path")
    return schema_without(schema, kind, relation, path)


def spare_parts(schema):
    """Return the parts (kind, relation, path) without which, each alone, the schema is alike to itself [10.2]."""
    tables = tables_of(schema)
    found = []
    for kind, relation in tables.rights():
        for path in paths_that_can_go(tables.kinds[kind][relation]):
            if parting_of(tables, tables_of(schema_without(schema, kind, relation, path))) is None:
                found.append((kind, relation, path))
    return found


def rows_lost(schema, other, state):
    """Return the places of the rows of a state that are no rows of another schema [10.3]."""
    tables = tables_of(schema)
    second = tables_of(other)
    index_of(tables, state)
    return [k for k, row in enumerate(state) if not is_row(second, row)]


def rights_changed(schema, other, state):
    """Return what comes and what goes, as tuples (thing, right, who), if another schema takes the place [10.3]."""
    tables = tables_of(schema)
    second = tables_of(other)
    index = index_of(tables, state)
    left = Index(second)
    left.read([row for row in state if is_row(second, row)])
    rights = sorted(set(tables.rights() + second.rights()))
    nodes = [(thing, right) for thing in index.things() for kind, right in rights if kind == thing[0]]
    users = index.users()
    kinds = tables.bare_kinds()
    before = held_by(tables, index, nodes, users, kinds)
    behind = held_by(second, left, nodes, users, kinds)
    come = []
    gone = []
    for node, had, has in zip(nodes, before, behind):
        come.extend([(node[0], node[1], who) for who in has if who not in had])
        gone.extend([(node[0], node[1], who) for who in had if who not in has])
    return (come, gone)


def held_by(tables, index, nodes, users, kinds):
    """Return for each node those that have it by a schema, as a dict of True: of some users, then of some kinds."""
    known = [node for node in nodes if is_right(tables, node[0][0], node[1])]
    holders = Holders(tables, index, known)
    found = []
    for node in nodes:
        mask = holders.masks.get(node, 0)
        having = {}
        if mask:
            having = {user: True for user in users if is_user_kind(tables.kinds, user[0]) and holders.has(node, user)}
            for kind in kinds:
                if is_user_kind(tables.kinds, kind) and holders.has(node, (kind, -1)):
                    having[kind] = True
        found.append(having)
    return found
