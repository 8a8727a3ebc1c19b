"""Switches, changes and wishes: which objects are such, and the states that changes make.

The change with the indexes in some places makes the world [worlds.py] in whose number these bits are set.
"""

from itertools import combinations

from relatedrights.errors import Mismatch, TooLarge
from relatedrights.rows import are_rows, is_thing, is_user
from relatedrights.tables import is_right
from relatedrights.worlds import Worlds, half_patterns

MOST_SWITCHES = 10
MOST_WISHES = 8


def require_switches(tables, switches):
    """Raise the error of any object that is not a list or tuple of at most ten different rows."""
    if not isinstance(switches, (list, tuple)) or not are_rows(tables, switches):
        raise Mismatch("switches")
    if len(set(switches)) < len(switches):
        raise Mismatch("switches")
    if len(switches) > MOST_SWITCHES:
        raise TooLarge(MOST_SWITCHES)


def require_wishes(tables, wishes):
    """Raise Mismatch for any object that is not a list or tuple of wishes."""
    if not isinstance(wishes, (list, tuple)) or not 1 <= len(wishes) <= MOST_WISHES:
        raise Mismatch("wishes")
    if not all([is_wish(tables, wish) for wish in wishes]) or len(set(wishes)) < len(wishes):
        raise Mismatch("wishes")


def is_wish(tables, value):
    """Return whether any object is a wish."""
    if not isinstance(value, tuple) or len(value) != 4 or not is_thing(tables, value[0]):
        return False
    return is_right(tables, value[0][0], value[1]) and is_user(tables, value[2]) and isinstance(value[3], bool)


def is_change_of(switches, value):
    """Return whether any object is a change, an ascending tuple of different indexes of switches."""
    if not isinstance(value, tuple):
        return False
    least = 0
    for place in value:
        if not isinstance(place, int) or isinstance(place, bool) or not least <= place < len(switches):
            return False
        least = place + 1
    return True


def require_change(switches, change):
    """Raise Mismatch for any object that is not a change."""
    if not is_change_of(switches, change):
        raise Mismatch("change")


def patterns_of(index, switches):
    """Return {row: the worlds in which it is there} for switches, and put them all into the index of a state."""
    every = (1 << (1 << len(switches))) - 1
    patterns = {}
    for row, half in zip(switches, half_patterns(len(switches))):
        patterns[row] = every ^ half if index.has(row) else half
    for row in switches:
        index.put(row)
    return patterns


def met_by_wish(tables, index, patterns, wishes):
    """Return for each wish the pattern of the worlds that meet it; the switches are told by their patterns."""
    many = 1 << len(patterns)
    worlds = Worlds(tables, index, many, patterns)
    nodes = {(thing, relation): True for thing, relation, _, _ in wishes}
    worlds.look_for(list(nodes), list({user: True for _, _, user, _ in wishes}))
    found = []
    for thing, relation, user, wanted in wishes:
        pattern = worlds.worlds_of((thing, relation), user)
        found.append(pattern if wanted else pattern ^ (1 << many) - 1)
    return found


def met_by_all(patterns):
    """Return the worlds that are in all of at least one pattern."""
    found = patterns[0]
    for pattern in patterns[1:]:
        found &= pattern
    return found


def world_of(change):
    """Return the number of the world that a change makes."""
    return sum([1 << place for place in change])


def least_in(pattern, switches):
    """Return the least change that makes a world of a pattern, or None."""
    if pattern:
        for size in range(len(switches) + 1):
            for change in combinations(range(len(switches)), size):
                if pattern >> world_of(change) & 1:
                    return change
    return None


def all_in(pattern, switches):
    """Return the changes that make the worlds of a pattern, the less one first."""
    return [change for size in range(len(switches) + 1) for change in combinations(range(len(switches)), size)
            if pattern >> world_of(change) & 1]
