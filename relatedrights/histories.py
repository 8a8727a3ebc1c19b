"""Histories: who has which rights in the snapshots that writes make of a state."""

from relatedrights.askers import Asker
from relatedrights.errors import InvalidKind, InvalidNumber, InvalidToken, Mismatch
from relatedrights.rows import index_of, is_thing, is_user, require_thing, require_user
from relatedrights.tables import require_right, require_thing_kind, tables_of
from relatedrights.writes import forward, is_token, require_history, require_token, truths_from, written

MOST_READS = 100


def snapshot(schema, state, history, token):
    """Return the rows of a snapshot, ascending, each once [6.1]."""
    tables = tables_of(schema)
    index = index_of(tables, state)
    require_history(tables, history)
    require_token(history, token)
    forward(index, history, 0, token)
    return index.rows()


def spans(schema, state, history, thing, relation, user):
    """Return the list of tuples (first, last) of snapshots through which a user has a right [6.2]."""
    tables = tables_of(schema)
    index = index_of(tables, state)
    require_history(tables, history)
    require_question(tables, thing, relation, user)
    found = []
    for k, truth in enumerate(truths_from(tables, index, history, 0, (thing, relation), user)):
        if truth and found and found[-1][1] == k - 1:
            found[-1] = (found[-1][0], k)
        elif truth:
            found.append((k, k))
    return found


def answers(schema, state, history, kept, token, thing, relation, user):
    """Return the answers that may come at a token to whether a user has a right [6.3]."""
    tables = tables_of(schema)
    index = index_of(tables, state)
    require_history(tables, history)
    require_kept(history, kept)
    require_token(history, token)
    require_question(tables, thing, relation, user)
    return sorted(set(truths_from(tables, index, history, max(kept, token), (thing, relation), user)))


def sure_from(schema, state, history, kept, thing, relation, user):
    """Return the least token at which only one answer may come, and this answer [6.3]."""
    tables = tables_of(schema)
    index = index_of(tables, state)
    require_history(tables, history)
    require_kept(history, kept)
    require_question(tables, thing, relation, user)
    truths = truths_from(tables, index, history, kept, (thing, relation), user)
    others = [k for k, truth in enumerate(truths) if truth != truths[-1]]
    return (kept + others[-1] + 1 if others else 0), truths[-1]


def leaks(schema, state, history, kept, token, first, last, thing, relation, user):
    """Return the snapshots at a token in which a user sees what was never meant for it [6.4]."""
    tables = tables_of(schema)
    index = index_of(tables, state)
    require_history(tables, history)
    require_kept(history, kept)
    require_token(history, token)
    require_stretch(history, first, last)
    require_question(tables, thing, relation, user)
    truths = truths_from(tables, index, history, 0, (thing, relation), user)
    return leaking(truths, max(kept, token), first, last)


def closed_by(schema, state, history, kept, first, last, thing, relation, user):
    """Return the least token at which nothing leaks, or None [6.4]."""
    tables = tables_of(schema)
    index = index_of(tables, state)
    require_history(tables, history)
    require_kept(history, kept)
    require_stretch(history, first, last)
    require_question(tables, thing, relation, user)
    found = leaking(truths_from(tables, index, history, 0, (thing, relation), user), kept, first, last)
    if not found:
        return 0
    return found[-1] + 1 if found[-1] < len(history) else None


def leaking(truths, start, first, last):
    """Return the snapshots from `start` on that hold, if none from first to last does, otherwise none."""
    if any(truths[first:last + 1]):
        return []
    return [k for k, truth in enumerate(truths) if truth and k >= start]


def watch(schema, state, history, token, kinds):
    """Return what changed behind a snapshot in rows whose things have some kinds [6.5]."""
    tables = tables_of(schema)
    index = index_of(tables, state)
    require_history(tables, history)
    require_token(history, token)
    if not isinstance(kinds, (list, tuple)):
        raise InvalidKind(kinds)
    for kind in kinds:
        require_thing_kind(tables, kind)
    forward(index, history, 0, token)
    found = []
    for k in range(token, len(history)):
        changes = [change for change in written(index, history[k]) if change[1][0][0] in kinds]
        if changes:
            found.append((k + 1, tuple(changes)))
    return found


def came_and_went(schema, state, history, one, other, user):
    """Return the rights that a user has in snapshot `other` alone, and those in snapshot `one` alone [6.6]."""
    tables = tables_of(schema)
    index = index_of(tables, state)
    require_history(tables, history)
    require_token(history, one)
    require_token(history, other)
    require_user(tables, user)
    early = min(one, other)
    late = max(one, other)
    forward(index, history, 0, early)
    first = rights_in(tables, index, user)
    forward(index, history, early, late)
    second = rights_in(tables, index, user)
    came = [node for node in second if node not in first]
    went = [node for node in first if node not in second]
    return (came, went) if one <= other else (went, came)


def rights_in(tables, index, user):
    """Return the rights (thing, relation) that a user has, as a dict of True in their order."""
    asker = Asker(tables, index, user)
    nodes = [(thing, name) for thing in index.things() for name in tables.bits[thing[0]]]
    return {node: True for node in nodes if asker.has(node[0], node[1])}


def session(schema, state, history, kept, reads):
    """Return the lowest snapshots that can have answered the reads of a session, or None [6.7]."""
    tables = tables_of(schema)
    index = index_of(tables, state)
    require_history(tables, history)
    require_kept(history, kept)
    if not isinstance(reads, (list, tuple)) or len(reads) > MOST_READS:
        raise Mismatch("reads")
    if not all([is_read(tables, history, read) for read in reads]):
        raise Mismatch("reads")
    found = []
    at = 0
    askers = {}
    for token, thing, relation, user, answer in reads:
        least = max(kept, token, at)
        while at < least or not answered(tables, index, askers, thing, relation, user, answer):
            if at == len(history):
                return None
            written(index, history[at])
            at += 1
            askers.clear()
        found.append(at)
    return found


def answered(tables, index, askers, thing, relation, user, answer):
    """Return whether a snapshot, for which {user: its Asker} is kept, gives this answer to a read."""
    if user not in askers:
        askers[user] = Asker(tables, index, user)
    return askers[user].has(thing, relation) == answer


def is_read(tables, history, value):
    """Return whether any object is a read of a history."""
    if not isinstance(value, tuple) or len(value) != 5:
        return False
    token, thing, relation, user, answer = value
    if not is_token(history, token) or not is_thing(tables, thing) or not isinstance(relation, str):
        return False
    return relation in tables.bits[thing[0]] and is_user(tables, user) and isinstance(answer, bool)


def require_kept(history, kept):
    """Raise InvalidNumber for any object that is not the number of a snapshot."""
    if not is_token(history, kept):
        raise InvalidNumber("kept")


def require_stretch(history, first, last):
    """Raise InvalidToken for what is not the first or the last of a row of snapshots."""
    require_token(history, first)
    require_token(history, last)
    if last < first:
        raise InvalidToken(last)


def require_question(tables, thing, relation, user):
    """Raise the error of what is not a thing, a right of it, or a user."""
    require_thing(tables, thing)
    require_right(tables, thing[0], relation)
    require_user(tables, user)
