"""States: who has which rights, by the rows of a state."""

from relatedrights.errors import Mismatch
from relatedrights.holders import masks_of
from relatedrights.rows import index_of, is_row, require_thing, require_user
from relatedrights.rules import is_user_kind
from relatedrights.tables import require_right, tables_of


def check_state(schema, state):
    """Return None, or raise an error of a schema or a state [2.1]."""
    index_of(tables_of(schema), state)


def check_row(schema, row):
    """Return None if any object is a row, otherwise raise Mismatch("row") [2.1]."""
    if not is_row(tables_of(schema), row):
        raise Mismatch("row")


def check(schema, state, thing, relation, user):
    """Return whether a user has a right to a thing [2.2]."""
    tables = tables_of(schema)
    index = index_of(tables, state)
    require_thing(tables, thing)
    require_right(tables, thing[0], relation)
    require_user(tables, user)
    node = (thing, relation)
    return masks_of(tables, index, [user], [node]).get(node, 0) != 0


def who_has(schema, state, thing, relation):
    """Return the named users that have a right to a thing, and the bare kinds of which all others do [2.3]."""
    tables = tables_of(schema)
    index = index_of(tables, state)
    require_thing(tables, thing)
    require_right(tables, thing[0], relation)
    node = (thing, relation)
    named = sorted(list(index.users))
    bare = sorted([kind for kind in tables.kinds if is_user_kind(tables.kinds, kind)])
    # No row can name a user with this number, so it stands for all unnamed users of the kind.
    users = named + [(kind, -1) for kind in bare]
    mask = masks_of(tables, index, users, [node]).get(node, 0)
    had = [user for k, user in enumerate(users) if mask >> k & 1]
    return [user for user in had if user[1] >= 0], [user[0] for user in had if user[1] < 0]


def rights_of(schema, state, user):
    """Return all tuples (thing, relation) of rights that a user has [2.4]."""
    tables = tables_of(schema)
    index = index_of(tables, state)
    require_user(tables, user)
    things = sorted(list(index.things))
    nodes = [(thing, relation) for thing in things for relation in tables.relations[thing[0]]]
    masks = masks_of(tables, index, [user], nodes)
    return [node for node in nodes if masks.get(node, 0)]


def named_users(schema, state):
    """Return the users that the rows of a state name [2.4]."""
    return sorted(list(index_of(tables_of(schema), state).users))
