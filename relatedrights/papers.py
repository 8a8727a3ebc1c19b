"""Papers: steps that show, one by one, which rights a user has and has not, and how rights come about."""

from heapq import heappop, heappush

from relatedrights.descents import Descent
from relatedrights.errors import InvalidNumber, Mismatch, TooLarge
from relatedrights.nets import UserNet
from relatedrights.proofs import Prover
from relatedrights.rows import index_of, require_thing, require_user
from relatedrights.steps import StepReader
from relatedrights.sums import Counting, Weighing
from relatedrights.tables import require_right, tables_of
from relatedrights.words import is_number

MOST_STEPS = 100
MOST_ROUNDS = 100
MOST_FIGURES = 60


def judge(schema, state, user, paper):
    """Return None if all steps of a paper stand, else the index of the first one that does not, or -1 [4.1]."""
    tables = tables_of(schema)
    index = index_of(tables, state)
    require_user(tables, user)
    if not isinstance(paper, (list, tuple)):
        return -1
    reader = StepReader(tables, index, user)
    known = {}
    missing = {}
    for k, step in enumerate(paper):
        if not reader.read(step) or not stands(rests_of(reader), known, missing):
            return k
    return None


def rests_of(reader):
    """Return what the step that was read last rests on, and what it shows, as a tuple."""
    return (reader.known, reader.missing, reader.shown, reader.lacks)


def stands(rests, known, missing):
    """Return whether a step stands by what has been shown; if so, add what it shows."""
    needs_known, needs_missing, shown, lacks = rests
    if not all([node in known for node in needs_known]):
        return False
    if not all([node in missing or (lacks and node in shown) for node in needs_missing]):
        return False
    if lacks:
        missing.update(shown)
    else:
        known.update(shown)
    return True


def all_stand(steps):
    """Return whether steps, each given by what it rests on and shows, all stand."""
    known = {}
    missing = {}
    return all([stands(rests, known, missing) for rests in steps])


def paper_for(schema, state, thing, relation, user):
    """Return a paper that shows whether the user has a right to a thing [4.2]."""
    tables = tables_of(schema)
    index = index_of(tables, state)
    require_thing(tables, thing)
    require_right(tables, thing[0], relation)
    require_user(tables, user)
    return Prover(tables, index, user, (thing, relation)).paper()


def trimmed(schema, state, user, paper):
    """Return the steps of a paper without those that it can do without, the later ones tried first [4.3]."""
    tables = tables_of(schema)
    index = index_of(tables, state)
    require_user(tables, user)
    if not isinstance(paper, (list, tuple)):
        raise Mismatch("paper")
    if len(paper) > MOST_STEPS:
        raise TooLarge(MOST_STEPS)
    reader = StepReader(tables, index, user)
    kept = []
    for step in paper:
        if not reader.read(step):
            raise Mismatch("paper")
        kept.append((rests_of(reader), step))
    if not kept or not all_stand([rests for rests, _ in kept]):
        raise Mismatch("paper")
    for k in range(len(kept) - 2, -1, -1):
        left = kept[:k] + kept[k + 1:]
        if all_stand([rests for rests, _ in left]):
            kept = left
    return [step for _, step in kept]


def weight(schema, state, thing, relation, user):
    """Return how many rows must be read at least to see a right, None if the user does not have it [4.4]."""
    tables = tables_of(schema)
    index = index_of(tables, state)
    require_thing(tables, thing)
    require_right(tables, thing[0], relation)
    require_user(tables, user)
    node = (thing, relation)
    descent = Descent(tables, index, user, Weighing(tables, index, user))
    if descent.settle(node):
        return descent.numbers[node]
    return weights(UserNet(tables, index, user, [node])).get(node)


def weights(user_net):
    """Return {node: weight} for the nodes that the user has."""
    net = user_net.net
    nodes = list(net.reads)
    places = {node: k for k, node in enumerate(nodes)}
    least = {node: [1 if many else None for many in user_net.given[node]] for node in nodes}
    queue = []
    for node in nodes:
        number = least_by(user_net.shapes[node], least[node])
        if number is not None:
            heappush(queue, (number, places[node]))
    found = {}
    while queue:
        number, place = heappop(queue)
        node = nodes[place]
        if node in found:
            continue
        # No rule gives less than a number that it reads, so the least number left is a weight.
        found[node] = number
        for reader, leaf in net.readers[node]:
            if least[reader][leaf] is None:
                least[reader][leaf] = number + (0 if net.leaf(reader, leaf)[0] == "same" else 1)
                more = least_by(user_net.shapes[reader], least[reader])
                if more is not None and reader not in found:
                    heappush(queue, (more, places[reader]))
    return found


def least_by(shape, numbers):
    """Return the least number that a shape without buts gives by those of its leaves, None if it gives none."""
    if shape is None:
        return None
    if isinstance(shape, int):
        return numbers[shape]
    found = [least_by(part, numbers) for part in shape[1:]]
    told = [number for number in found if number is not None]
    if shape[0] == "both":
        return sum(told) if len(told) == len(found) else None
    return min(told) if told else None


def ways(schema, state, thing, relation, user, rounds):
    """Return in how many ways a right comes about within so many rounds [4.5]."""
    tables = tables_of(schema)
    index = index_of(tables, state)
    require_thing(tables, thing)
    require_right(tables, thing[0], relation)
    require_user(tables, user)
    if not is_number(rounds) or rounds > MOST_ROUNDS:
        raise InvalidNumber("rounds")
    limit = 10 ** 60
    node = (thing, relation)
    descent = Descent(tables, index, user, Counting(tables, index, user, limit))
    many, needed = (0, rounds + 1)
    if descent.settle(node):
        many, needed = descent.numbers[node] or (0, 0)
    if needed > rounds:
        many = ways_within(UserNet(tables, index, user, [node]), rounds, limit).get(node, 0)
    if many == limit:
        raise TooLarge(MOST_FIGURES)
    return many


def ways_within(user_net, rounds, limit):
    """Return {node: its ways within so many rounds, or the limit, if that is less}; none where it is missing."""
    readers = user_net.net.readers
    sums = {node: list(user_net.given[node]) for node in user_net.given}
    found = {}
    fresh = list(sums)
    for _ in range(rounds):
        more = {}
        for node in fresh:
            number = ways_by(user_net.shapes[node], sums[node], limit)
            if number != found.get(node, 0):
                more[node] = number - found.get(node, 0)
        below = {}
        for node, number in more.items():
            found[node] = found.get(node, 0) + number
            for reader, leaf in readers[node]:
                sums[reader][leaf] += number
                below[reader] = True
        fresh = list(below)
    return found


def ways_by(shape, sums, limit):
    """Return the number that a shape without buts gives by those of its leaves, at most the limit."""
    if shape is None:
        return 0
    if isinstance(shape, int):
        return min(limit, sums[shape])
    # What has reached the limit stays there by all sums, and by all products but those with 0.
    number = ways_by(shape[1], sums, limit)
    for part in shape[2:]:
        other = ways_by(part, sums, limit)
        number = min(limit, number * other if shape[0] == "both" else number + other)
    return number
