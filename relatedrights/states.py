"""States: who has which rights, by the rows of a state."""

from relatedrights.askers import Asker
from relatedrights.errors import Mismatch
from relatedrights.holders import Holders
from relatedrights.rows import index_of, is_row, require_thing, require_user
from relatedrights.tables import require_right, tables_of


def check_state(schema, state):
    """Return None, or raise an error of a schema or a state [2.1]."""
    index_of(tables_of(schema), state)


def check_row(schema, row):
    """Return None if any object is a row, otherwise raise Mismatch("row") [2.1]."""
    if not is_row(tables_of(schema), row):
        raise Mismatch("row")


def check(schema, state, thing, relation, user):
    """Return whether a user has a right to a thing [2.2]."""
    tables = tables_of(schema)
    index = index_of(tables, state)
    require_thing(tables, thing)
    require_right(tables, thing[0], relation)
    require_user(tables, user)
    return Asker(tables, index, user).has(thing, relation)


def who_has(schema, state, thing, relation):
    """Return the named users that have a right to a thing, and the bare kinds of which all others do [2.3]."""
    tables = tables_of(schema)
    index = index_of(tables, state)
    require_thing(tables, thing)
    require_right(tables, thing[0], relation)
    return Holders(tables, index, [(thing, relation)]).holders_of((thing, relation))


def rights_of(schema, state, user):
    """Return all tuples (thing, relation) of rights that a user has [2.4]."""
    tables = tables_of(schema)
    index = index_of(tables, state)
    require_user(tables, user)
    asker = Asker(tables, index, user)
    return [(thing, name) for thing in index.things() for name in tables.bits[thing[0]] if asker.has(thing, name)]


def named_users(schema, state):
    """Return the users that the rows of a state name [2.4]."""
    return index_of(tables_of(schema), state).users()
