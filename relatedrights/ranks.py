"""Asking with a depth: what is told within so many steps, and in which round a right comes."""

from relatedrights.descents import Descent
from relatedrights.errors import InvalidNumber
from relatedrights.nets import Net, UserNet, nodes_read
from relatedrights.rows import index_of, require_thing, require_user
from relatedrights.rules import leaves_of
from relatedrights.sums import LARGE, Looking, Ranking, Telling
from relatedrights.tables import require_right, tables_of
from relatedrights.words import is_number

MOST_CALLS_DEPTH = 100

# Of two words an either has the greater one, a both the lesser one.
NO = 0
DEEP = 1
YES = 2
WORDS = ("no", "deep", "yes")


def check_within(schema, state, thing, relation, user, depth):
    """Return "yes", "no" or "deep", the value of a right at a depth [3.1]."""
    tables = tables_of(schema)
    index = index_of(tables, state)
    require_thing(tables, thing)
    require_right(tables, thing[0], relation)
    require_user(tables, user)
    if not is_number(depth):
        raise InvalidNumber("depth")
    value, least = told_of(tables, index, user, (thing, relation))
    return WORDS[value] if value != DEEP and least <= depth else WORDS[DEEP]


def depth_needed(schema, state, thing, relation, user):
    """Return the least depth at which the value of a right is not "deep", or None [3.2]."""
    tables = tables_of(schema)
    index = index_of(tables, state)
    require_thing(tables, thing)
    require_right(tables, thing[0], relation)
    require_user(tables, user)
    return told_of(tables, index, user, (thing, relation))[1]


def never_told(schema, state, user):
    """Return all tuples (thing, relation) of which the value is "deep" at all depths [3.3]."""
    tables = tables_of(schema)
    index = index_of(tables, state)
    require_user(tables, user)
    nodes = [(thing, name) for thing in index.things() for name in tables.bits[thing[0]]]
    if Descent(tables, index, user, Looking()).settle_all(nodes):
        # What does not read itself is told at some depth.
        return []
    told = told_at(tables, index, user, nodes)
    return [node for node in nodes if node not in told]


def told_of(tables, index, user, node):
    """Return the value of a node and the least depth that tells it, (DEEP, None) if none does."""
    descent = Descent(tables, index, user, Telling())
    if descent.settle(node):
        number = descent.numbers[node]
        return (YES, LARGE + 1 - number) if number > 0 else (NO, LARGE + 1 + number)
    return told_at(tables, index, user, [node]).get(node, (DEEP, None))


def told_at(tables, index, user, roots):
    """Return {node: (value, depth)} for all that ever is told: the value, and the least depth that tells it."""
    net = Net(tables, index, roots)
    deep = {node: [len(nodes) for nodes in net.reads[node]] for node in net.reads}
    sure = {node: [many > 0 for many in net.outright(node, user)] for node in net.reads}
    found = {}
    fresh = list(net.reads)
    depth = 0
    while fresh:
        depth += 1
        new = {}
        for node in fresh:
            value = value_by(net.shape(node), deep[node], sure[node])
            if value != DEEP:
                new[node] = value
        below = {}
        for node, value in new.items():
            found[node] = (value, depth)
            for reader, leaf in net.readers[node]:
                deep[reader][leaf] -= 1
                sure[reader][leaf] = sure[reader][leaf] or value == YES
                below[reader] = True
        fresh = [node for node in below if node not in found]
    return found


def value_by(shape, deep, sure):
    """Return the value of a shape; of each leaf it is known how many reads are deep, and whether one is "yes"."""
    if isinstance(shape, int):
        if sure[shape]:
            return YES
        return DEEP if deep[shape] else NO
    values = [value_by(part, deep, sure) for part in shape[1:]]
    if shape[0] == "either":
        return max(values)
    return min(values) if shape[0] == "both" else min(values[0], YES - values[1])


def calls_within(schema, state, thing, relation, depth):
    """Return how many rights are asked for in all, if nothing is remembered on the way [3.4]."""
    tables = tables_of(schema)
    index = index_of(tables, state)
    require_thing(tables, thing)
    require_right(tables, thing[0], relation)
    if not is_number(depth) or depth > MOST_CALLS_DEPTH:
        raise InvalidNumber("depth")
    asked = {(thing, relation): 1}
    total = 1
    calls = {}
    for _ in range(depth):
        below = {}
        for node, many in asked.items():
            if node not in calls:
                calls[node] = calls_of(tables, index, node)
            for other, times in calls[node].items():
                below[other] = below.get(other, 0) + many * times
        asked = below
        total += sum(list(below.values()))
    return total


def calls_of(tables, index, node):
    """Return {node: how often it is asked for} for what the rule of a node reads."""
    found = {}
    thing, relation = node
    for leaf in leaves_of(tables.kinds[thing[0]][relation]):
        for other in nodes_read(index, thing, relation, leaf):
            found[other] = found.get(other, 0) + 1
    return found


def rank(schema, state, thing, relation, user):
    """Return the number of the round in which a right comes, None if the user does not have it [3.5]."""
    tables = tables_of(schema)
    index = index_of(tables, state)
    require_thing(tables, thing)
    require_right(tables, thing[0], relation)
    require_user(tables, user)
    node = (thing, relation)
    descent = Descent(tables, index, user, Ranking(tables, index, user))
    if descent.settle(node):
        return descent.numbers[node]
    return UserNet(tables, index, user, [node]).ranks().get(node)
