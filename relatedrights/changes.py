"""Least changes: which rows must be put in or taken out, so that rights are as somebody wishes."""

from itertools import combinations

from relatedrights.concerns import Concerned, require_concerns
from relatedrights.rows import index_of
from relatedrights.switches import (
    all_in, is_change_of, least_in, met_by_all, met_by_wish, patterns_of, require_change, require_switches,
    require_wishes, world_of,
)
from relatedrights.tables import tables_of
from relatedrights.worlds import half_patterns


def switched(schema, state, switches, change):
    """Return the state that a change makes [8.1]."""
    tables = tables_of(schema)
    index = index_of(tables, state)
    require_switches(tables, switches)
    require_change(switches, change)
    rows = {row: True for row in state}
    for place in change:
        row = switches[place]
        if index.has(row):
            del rows[row]
        else:
            rows[row] = True
    return list(rows)


def least_change(schema, state, switches, wishes):
    """Return the least change that meets all wishes, or None [8.2]."""
    tables = tables_of(schema)
    index = index_of(tables, state)
    require_switches(tables, switches)
    require_wishes(tables, wishes)
    return least_in(met_by_all(met_by_wish(tables, index, patterns_of(index, switches), wishes)), switches)


def minimal_changes(schema, state, switches, wishes):
    """Return the changes that meet all wishes and of which no part does [8.2]."""
    tables = tables_of(schema)
    index = index_of(tables, state)
    require_switches(tables, switches)
    require_wishes(tables, wishes)
    met = met_by_all(met_by_wish(tables, index, patterns_of(index, switches), wishes))
    halves = half_patterns(len(switches))
    with_part = met
    for k, half in enumerate(halves):
        with_part |= with_part << (1 << k) & half
    greater = 0
    for k, half in enumerate(halves):
        greater |= with_part << (1 << k) & half
    return all_in(met & ~greater, switches)


def effects(schema, state, switches, change, concerns):
    """Return what a change does to concerns [8.3]."""
    tables = tables_of(schema)
    index = index_of(tables, state)
    require_switches(tables, switches)
    require_change(switches, change)
    require_concerns(tables, concerns)
    patterns = {switches[place]: 1 if index.has(switches[place]) else 2 for place in change}
    others = [row for row in switches if row not in patterns and not index.has(row)]
    for row in switches:
        index.put(row)
    named = index.users()
    for row in others:
        index.take(row)
    concerned = Concerned(tables, index, concerns, 2, patterns)
    found = []
    for node in concerned.nodes:
        for who, word in concerned.changes_told(node, named):
            found.append((node[0], node[1], who, word))
    return found


def quiet_change(schema, state, switches, wishes, concerns):
    """Return the change that meets all wishes with the fewest effects beside them, and their number [8.4]."""
    tables = tables_of(schema)
    index = index_of(tables, state)
    require_switches(tables, switches)
    require_wishes(tables, wishes)
    require_concerns(tables, concerns)
    patterns = patterns_of(index, switches)
    quiet = met_by_all(met_by_wish(tables, index, patterns, wishes))
    if not quiet:
        return None
    users = {user: True for _, _, user, _ in wishes}
    concerned = Concerned(tables, index, concerns, 1 << len(switches), patterns, list(users))
    users.update({user: True for user in index.users()})
    wished = {(thing, relation, user): True for thing, relation, user, _ in wishes}
    planes = planes_of(concerned.weighed(list(users), wished))
    number = 0
    for k in range(len(planes) - 1, -1, -1):
        if quiet & ~planes[k]:
            quiet &= ~planes[k]
        else:
            number |= 1 << k
    return (least_in(quiet, switches), number)


def planes_of(weighed):
    """Return the sums of tuples (pattern, number), for all worlds at once: the pattern of each of their bits."""
    planes = []
    for pattern, number in weighed:
        for k in range(number.bit_length()):
            carry = pattern if number >> k & 1 else 0
            at = k
            while carry:
                if at >= len(planes):
                    planes.extend([0] * (at + 1 - len(planes)))
                planes[at], carry = planes[at] ^ carry, planes[at] & carry
                at += 1
    return planes


def why_not(schema, state, switches, wishes):
    """Return the fewest wishes that no change meets together, None if there are none [8.5]."""
    tables = tables_of(schema)
    index = index_of(tables, state)
    require_switches(tables, switches)
    require_wishes(tables, wishes)
    patterns = met_by_wish(tables, index, patterns_of(index, switches), wishes)
    for size in range(1, len(wishes) + 1):
        for some in combinations(range(len(wishes)), size):
            if not met_by_all([patterns[k] for k in some]):
                return some
    return None


def judge_change(schema, state, switches, wishes, told):
    """Return a word for what is wrong with any object in the place of the least change, or "right" [8.6]."""
    tables = tables_of(schema)
    index = index_of(tables, state)
    require_switches(tables, switches)
    require_wishes(tables, wishes)
    met = met_by_all(met_by_wish(tables, index, patterns_of(index, switches), wishes))
    if told is None:
        return "none" if met else "right"
    if not is_change_of(switches, told):
        return "form"
    if not met >> world_of(told) & 1:
        return "unmet"
    return "right" if told == least_in(met, switches) else "more"
