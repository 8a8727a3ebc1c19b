"""Two who write: in which orders their offers can be done, and what comes of all orders."""

from math import comb

from relatedrights.offers import Grid, Outcomes, require_offers
from relatedrights.rows import index_of, require_thing, require_user
from relatedrights.rulings import rules_of
from relatedrights.tables import require_right, tables_of

MOST_OFFERS = 30
MOST_OFFERS_IN_ALL_ORDERS = 6


def grid_of(schema, rules, state, one, other):
    """Return the grid of two lists of offers, or raise an error of an argument."""
    tables = tables_of(schema)
    index = index_of(tables, state)
    ruling = rules_of(tables, rules)
    require_offers(tables, one, MOST_OFFERS)
    require_offers(tables, other, MOST_OFFERS)
    return Grid(tables, ruling, index, one, other)


def clean_orders(schema, rules, state, one, other):
    """Return how many orders there are, and how many of them are clean [12.1]."""
    found = grid_of(schema, rules, state, one, other)
    return (comb(len(one) + len(other), len(one)), found.ways[-1][-1])


def grid(schema, rules, state, one, other):
    """Return for each i and j the number of clean beginnings that take i and j offers [12.1]."""
    return grid_of(schema, rules, state, one, other).ways


def clean_order(schema, rules, state, one, other):
    """Return the least clean order, or None [12.2]."""
    found = grid_of(schema, rules, state, one, other)
    if not found.ways[-1][-1]:
        return None
    ends = {(len(one), len(other)): True}
    for i in range(len(one), -1, -1):
        for j in range(len(other), -1, -1):
            if (found.can_first(i, j) and (i + 1, j) in ends) or (found.can_second(i, j) and (i, j + 1) in ends):
                ends[(i, j)] = True
    order = []
    i = 0
    j = 0
    while len(order) < len(one) + len(other):
        if found.can_first(i, j) and (i + 1, j) in ends:
            order.append(0)
            i += 1
        else:
            order.append(1)
            j += 1
    return tuple(order)


def first_refusal(schema, rules, state, one, other):
    """Return the shortest beginning, the least of several, that is not clean, or None [12.2]."""
    found = grid_of(schema, rules, state, one, other)
    for length in range(len(one) + len(other)):
        # All shorter beginnings are clean, so any order of these offers leads here; 0 ahead of 1 is the least one.
        for i in range(min(length, len(one)), -1, -1):
            j = length - i
            if j <= len(other):
                if i < len(one) and not found.can_first(i, j):
                    return (0,) * i + (1,) * j + (0,)
                if j < len(other) and not found.can_second(i, j):
                    return (0,) * i + (1,) * j + (1,)
    return None


def last_state(schema, rules, state, one, other):
    """Return the rows of the state behind the clean orders, ascending, each once, or None [12.2]."""
    found = grid_of(schema, rules, state, one, other)
    if not found.ways[-1][-1]:
        return None
    last = found.at(len(one), len(other))
    return [row for row in found.index.rows() if found.able.there(row) >> last & 1]


def clashes(schema, rules, state, one, other):
    """Return the pairs (i, j) behind which both next offers can be done, but not one behind the other [12.3]."""
    found = grid_of(schema, rules, state, one, other)
    pairs = [(i, j) for i in range(len(one)) for j in range(len(other)) if found.ways[i][j]]
    both = [(i, j) for i, j in pairs if found.can_first(i, j) and found.can_second(i, j)]
    return [(i, j) for i, j in both if not found.can_second(i + 1, j) or not found.can_first(i, j + 1)]


def outcomes(schema, rules, state, one, other):
    """Return each state that some order leads to, and how many orders do, ascending [12.4]."""
    tables = tables_of(schema)
    index = index_of(tables, state)
    ruling = rules_of(tables, rules)
    require_offers(tables, one, MOST_OFFERS_IN_ALL_ORDERS)
    require_offers(tables, other, MOST_OFFERS_IN_ALL_ORDERS)
    found = Outcomes(tables, ruling, index, one, other, [])
    return sorted([(found.state(world), number) for world, number in found.found.items()])


def rights_behind(schema, rules, state, one, other, thing, relation, user):
    """Return behind how many orders a user has a right, and behind how many not [12.4]."""
    tables = tables_of(schema)
    index = index_of(tables, state)
    ruling = rules_of(tables, rules)
    require_offers(tables, one, MOST_OFFERS_IN_ALL_ORDERS)
    require_offers(tables, other, MOST_OFFERS_IN_ALL_ORDERS)
    require_thing(tables, thing)
    require_right(tables, thing[0], relation)
    require_user(tables, user)
    node = (thing, relation)
    found = Outcomes(tables, ruling, index, one, other, [(node, user)])
    having = found.able.worlds.worlds_of(node, user)
    having_it = sum([number for world, number in found.found.items() if having >> world & 1])
    return (having_it, sum(list(found.found.values())) - having_it)
