"""Schemas: what is one, what its rights depend on, and their levels."""

from relatedrights.tables import require_right, require_thing_kind, tables_of


def check_schema(schema):
    """Return None, or raise an error of a schema [1.1]."""
    tables_of(schema)


def depends_on(schema, kind, relation):
    """Return the rights on which a right depends, in the order of the schema [1.2]."""
    tables = tables_of(schema)
    require_thing_kind(tables, kind)
    require_right(tables, kind, relation)
    rights = tables.rights()
    found = tables.depended_on(tables.named[rights.index((kind, relation))])
    return [right for k, right in enumerate(rights) if found >> k & 1]


def strata(schema):
    """Return the rights of each level, from 0 on, in the order of the schema [1.3]."""
    tables = tables_of(schema)
    rights = tables.rights()
    levels = [tables.level(kind, relation) for kind, relation in rights]
    highest = max([0] + levels)
    return [[right for k, right in enumerate(rights) if levels[k] == level] for level in range(highest + 1)]
