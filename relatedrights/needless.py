"""Rows that can be let go, while the rights that somebody is concerned with stay as they are."""

from itertools import combinations

from relatedrights.concerns import Concerned, require_concerns
from relatedrights.errors import Mismatch, TooLarge
from relatedrights.rows import are_rows, index_of, is_row
from relatedrights.tables import tables_of
from relatedrights.worlds import half_patterns

MOST_SPARE = 100
MOST_TOGETHER = 10

# So many rows are looked at in one go, in all the states without some of them.
FEW = 7


def agree(schema, state, other, concerns):
    """Return whether two states agree in concerns [7.1]."""
    return difference(schema, state, other, concerns) is None


def difference(schema, state, other, concerns):
    """Return the first right of a user in which two states do not agree, or None [7.1]."""
    tables = tables_of(schema)
    index = index_of(tables, state)
    second = index_of(tables, other)
    require_concerns(tables, concerns)
    patterns = {row: 1 for row in state if not second.has(row)}
    patterns.update({row: 2 for row in other if not index.has(row)})
    return Concerned(tables, index, concerns, 2, patterns).first_difference()


def spare_rows(schema, state, concerns):
    """Return the different spare rows of a state [7.2]."""
    tables = tables_of(schema)
    index = index_of(tables, state)
    require_concerns(tables, concerns)
    rows = different_rows(state)
    needed = needed_worlds(tables, index, rows, concerns)
    return [row for k, row in enumerate(rows) if not needed >> k + 1 & 1]


def needed_for(schema, state, concerns, row):
    """Return the difference of a state and the state without a row [7.2]."""
    tables = tables_of(schema)
    index = index_of(tables, state)
    require_concerns(tables, concerns)
    if not is_row(tables, row) or not index.has(row):
        raise Mismatch("row")
    return Concerned(tables, index, concerns, 2, {row: 1}).first_difference()


def thinned(schema, state, concerns):
    """Return the rows that are left if each one goes, in order, that is spare by then [7.3]."""
    tables = tables_of(schema)
    index = index_of(tables, state)
    require_concerns(tables, concerns)
    rows = different_rows(state)
    left = []
    for start in range(0, len(rows), FEW):
        some = rows[start:start + FEW]
        apart = apart_without(tables, index, some, concerns)
        gone = 0
        for k, row in enumerate(some):
            if apart >> (gone | 1 << k) & 1:
                left.append(row)
                index.put(row)
            else:
                gone |= 1 << k
                index.take(row)
    return left


def is_thin(schema, state, concerns):
    """Return whether no row of a state is spare [7.3]."""
    tables = tables_of(schema)
    index = index_of(tables, state)
    require_concerns(tables, concerns)
    rows = different_rows(state)
    return needed_worlds(tables, index, rows, concerns) == (1 << len(rows) + 1) - 2


def greatest_sets(schema, state, concerns, rows):
    """Return the sets of rows that can go and that no greater set contains that can go [7.4]."""
    free = sets_that_can_go(schema, state, concerns, rows)
    greater = free
    for k, pattern in enumerate(half_patterns(len(rows))):
        greater |= (greater & pattern) >> (1 << k)
    over = 0
    for k, pattern in enumerate(half_patterns(len(rows))):
        over |= (greater & pattern) >> (1 << k)
    found = free & ~over
    return [some for size in range(len(rows), -1, -1) for some in combinations(range(len(rows)), size)
            if found >> sum([1 << k for k in some]) & 1]


def count_sets(schema, state, concerns, rows):
    """Return how many sets of rows can go [7.4]."""
    return f"{sets_that_can_go(schema, state, concerns, rows):b}".count("1")


def sets_that_can_go(schema, state, concerns, rows):
    """Return the pattern of the sets of rows that can go, or raise an error of an argument."""
    tables = tables_of(schema)
    index = index_of(tables, state)
    require_concerns(tables, concerns)
    require_rows(tables, index, rows)
    every = (1 << (1 << len(rows))) - 1
    return every & ~apart_without(tables, index, rows, concerns)


def require_rows(tables, index, rows):
    """Raise the error of any object that is not a list or tuple of at most ten different rows of a state."""
    if not isinstance(rows, (list, tuple)):
        raise Mismatch("rows")
    if not are_rows(tables, rows) or not all([index.has(row) for row in rows]):
        raise Mismatch("rows")
    if len(set(rows)) < len(rows):
        raise Mismatch("rows")
    if len(rows) > MOST_TOGETHER:
        raise TooLarge(MOST_TOGETHER)


def different_rows(state):
    """Return the different rows of a state, in the order in which they first stand in it, or raise TooLarge."""
    rows = list({row: True for row in state})
    if len(rows) > MOST_SPARE:
        raise TooLarge(MOST_SPARE)
    return rows


def needed_worlds(tables, index, rows, concerns):
    """Return the pattern of the worlds that do not agree with the state: world k + 1 is that without row k."""
    every = (1 << len(rows) + 1) - 1
    patterns = {row: every ^ 2 << k for k, row in enumerate(rows)}
    return Concerned(tables, index, concerns, len(rows) + 1, patterns).worlds_apart()


def apart_without(tables, index, rows, concerns):
    """Return the pattern of the worlds that do not agree with the state: bit k of their numbers lets row k go."""
    many = 1 << len(rows)
    every = (1 << many) - 1
    patterns = {row: every ^ pattern for row, pattern in zip(rows, half_patterns(len(rows)))}
    return Concerned(tables, index, concerns, many, patterns).worlds_apart()
