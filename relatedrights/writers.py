"""Who may write: which changes users may do by the rights that they have, and what they can come to by them."""

from relatedrights.askers import Asker
from relatedrights.configurations import numbers_in
from relatedrights.errors import InvalidChange
from relatedrights.examples import Example
from relatedrights.growth import Growth
from relatedrights.profiles import laid_out, profiles_in, require_bare_kind, require_rights
from relatedrights.rows import Index, index_of, require_thing, require_user
from relatedrights.rulings import (
    Writing, is_step, require_change, require_company, require_no_buts, require_steps, rules_of,
)
from relatedrights.shortest import Toggling
from relatedrights.spreading import Spreading
from relatedrights.tables import require_right, require_thing_kind, tables_of
from relatedrights.ways import Way

MOST_ROWS_TO_CHANGE = 10


def may(schema, rules, state, user, change):
    """Return whether a user may do a change in a state [11.1]."""
    tables = tables_of(schema)
    index = index_of(tables, state)
    ruling = rules_of(tables, rules)
    require_user(tables, user)
    require_change(tables, change)
    return Writing(tables, ruling, index).may(user, change)


def may_write(schema, rules, state, user, thing):
    """Return the relations of a thing whose rows a user may put, and those whose rows it may take [11.1]."""
    tables = tables_of(schema)
    index = index_of(tables, state)
    ruling = rules_of(tables, rules)
    require_user(tables, user)
    require_thing(tables, thing)
    asker = Asker(tables, index, user)
    puts = []
    takes = []
    for (kind, relation), (put, take) in ruling.items():
        if kind == thing[0] and put is not None and asker.has(thing, put):
            puts.append(relation)
        if kind == thing[0] and take is not None and asker.has(thing, take):
            takes.append(relation)
    return (sorted(puts), sorted(takes))


def refused_at(schema, rules, state, steps):
    """Return the index of the first step that its user may not do, or None [11.2]."""
    tables = tables_of(schema)
    index = index_of(tables, state)
    writing = Writing(tables, rules_of(tables, rules), index)
    require_steps(tables, steps)
    for k, (user, change) in enumerate(steps):
        if not writing.may(user, change):
            return k
        writing.do(change)
    return None


def behind(schema, rules, state, steps):
    """Return the rows of the state behind all steps, ascending, each once [11.2]."""
    tables = tables_of(schema)
    index = index_of(tables, state)
    writing = Writing(tables, rules_of(tables, rules), index)
    require_steps(tables, steps)
    for user, change in steps:
        if writing.may(user, change):
            writing.do(change)
    return index.rows()


def can_come(schema, rules, state, company, thing, relation, user):
    """Return whether a company can do steps behind which a user has a right [11.3]."""
    return rounds_to(schema, rules, state, company, thing, relation, user) is not None


def rounds_to(schema, rules, state, company, thing, relation, user):
    """Return the least number of rounds behind which a user has a right, or None [11.3]."""
    growth = grown(schema, rules, state, company, thing, relation, user)
    return growth.rounds_to((thing, relation), user)


def way_to(schema, rules, state, company, thing, relation, user):
    """Return a list of steps of a company behind which a user has a right, or None [11.3]."""
    growth = grown(schema, rules, state, company, thing, relation, user)
    if growth.rounds_to((thing, relation), user) is None:
        return None
    return Way(growth, (thing, relation), user).steps()


def grown(schema, rules, state, company, thing, relation, user):
    """Return the growth of a company and a user, or raise an error of an argument."""
    tables = tables_of(schema)
    index = index_of(tables, state)
    ruling = rules_of(tables, rules)
    require_company(tables, company)
    require_thing(tables, thing)
    require_right(tables, thing[0], relation)
    require_user(tables, user)
    require_no_buts(tables)
    return Growth(tables, ruling, index, company, [user])


def shows_way(schema, rules, state, company, thing, relation, user, steps):
    """Return whether any object is a list or tuple of steps of a company behind which a user has a right [11.3]."""
    tables = tables_of(schema)
    index = index_of(tables, state)
    writing = Writing(tables, rules_of(tables, rules), index)
    require_company(tables, company)
    require_thing(tables, thing)
    require_right(tables, thing[0], relation)
    require_user(tables, user)
    if not isinstance(steps, (list, tuple)):
        return False
    for step in steps:
        if not is_step(tables, step) or step[0] not in company or not writing.may(step[0], step[1]):
            return False
        writing.do(step[1])
    return writing.has(thing, relation, user)


def gains(schema, rules, state, company, user):
    """Return the rights (thing, relation) that a user does not have, but can come to by a company [11.3]."""
    tables = tables_of(schema)
    index = index_of(tables, state)
    ruling = rules_of(tables, rules)
    require_company(tables, company)
    require_user(tables, user)
    require_no_buts(tables)
    growth = Growth(tables, ruling, index, company, [user])
    had = {node: True for node in growth.masks if growth.has(node, user)}
    while growth.ready:
        growth.go_on()
    return sorted([node for node in growth.masks if node not in had and growth.has(node, user)])


def fewest(schema, rules, state, company, rows, thing, relation, user):
    """Return the shortest list of changes of some rows by a company behind which a user has a right, or None [11.4]."""
    tables = tables_of(schema)
    index = index_of(tables, state)
    ruling = rules_of(tables, rules)
    require_company(tables, company)
    if not isinstance(rows, (list, tuple)) or len(rows) > MOST_ROWS_TO_CHANGE:
        raise InvalidChange(-1)
    wrong = Index(tables).read(rows)
    if wrong is not None:
        raise InvalidChange(wrong)
    require_thing(tables, thing)
    require_right(tables, thing[0], relation)
    require_user(tables, user)
    return Toggling(tables, ruling, index, sorted(company), sorted(set(rows))).shortest((thing, relation), user)


def can_grow(schema, rules, kind, bare, profile, relation):
    """Return whether some user with just this profile to a thing of a kind can come to a right to it alone [11.5]."""
    tables = tables_of(schema)
    ruling = rules_of(tables, rules)
    require_thing_kind(tables, kind)
    require_bare_kind(tables, bare)
    require_rights(tables, kind, profile, "profile")
    require_right(tables, kind, relation)
    require_no_buts(tables)
    spreading = Spreading(laid_out(tables, bare), ruling)
    return spreading.reaching(kind, profile, relation) != 0


def keepers(schema, rules, kind, bare, relation):
    """Return the profiles with which nobody comes to a right alone [11.5]."""
    tables = tables_of(schema)
    ruling = rules_of(tables, rules)
    require_thing_kind(tables, kind)
    require_bare_kind(tables, bare)
    require_right(tables, kind, relation)
    require_no_buts(tables)
    configurations = laid_out(tables, bare)
    spreading = Spreading(configurations, ruling)
    found = profiles_in(configurations, spreading.live, kind)
    return sorted([profile for profile in found if not spreading.reaching(kind, profile, relation)])


def growing(schema, rules, kind, bare, profile, relation):
    """Return a tuple (state, user, thing, steps) that shows what `can_grow` tells, or None [11.5]."""
    tables = tables_of(schema)
    ruling = rules_of(tables, rules)
    require_thing_kind(tables, kind)
    require_bare_kind(tables, bare)
    require_rights(tables, kind, profile, "profile")
    require_right(tables, kind, relation)
    require_no_buts(tables)
    configurations = laid_out(tables, bare)
    spreading = Spreading(configurations, ruling)
    numbers = numbers_in(spreading.reaching(kind, profile, relation))
    if not numbers:
        return None
    thing = (kind, numbers[0])
    example = Example(configurations, spreading.live)
    spreading.show(example, thing, relation)
    index = Index(tables)
    index.read(list(example.made))
    growth = Growth(tables, ruling, index, [example.user], [])
    growth.rounds_to((thing, relation), example.user)
    return (list(example.made), example.user, thing, Way(growth, (thing, relation), example.user).steps())
