"""Histories: who has which rights in the snapshots that writes make of a state."""

from relatedrights.errors import InvalidKind, InvalidNumber, InvalidToken, Mismatch
from relatedrights.rows import index_of, is_thing, is_user, require_thing, require_user
from relatedrights.snapshots import Snapshots, changes_for, rights_changed_between
from relatedrights.tables import require_right, require_thing_kind, tables_of
from relatedrights.writes import forward, is_token, require_history, require_token, rows_at, told_changes

MOST_READS = 100


def snapshot(schema, state, history, token):
    """Return the rows of a snapshot, ascending, each once [6.1]."""
    tables = tables_of(schema)
    index = index_of(tables, state)
    require_history(tables, history)
    require_token(history, token)
    return sorted([row for row, there in rows_at(state, history, token).items() if there])


def spans(schema, state, history, thing, relation, user):
    """Return the list of tuples (first, last) of snapshots through which a user has a right [6.2]."""
    tables = tables_of(schema)
    index = index_of(tables, state)
    require_history(tables, history)
    require_question(tables, thing, relation, user)
    found = []
    for k, truth in enumerate(Snapshots(tables, index, history, {user: True}).truths((thing, relation), user)):
        if truth and found and found[-1][1] == k - 1:
            found[-1] = (found[-1][0], k)
        elif truth:
            found.append((k, k))
    return found


def answers(schema, state, history, kept, token, thing, relation, user):
    """Return the answers that may come at a token to whether a user has a right [6.3]."""
    tables = tables_of(schema)
    index = index_of(tables, state)
    require_history(tables, history)
    require_kept(history, kept)
    require_token(history, token)
    require_question(tables, thing, relation, user)
    truths = Snapshots(tables, index, history, {user: True}).truths((thing, relation), user)
    return sorted(set(truths[max(kept, token):]))


def sure_from(schema, state, history, kept, thing, relation, user):
    """Return the least token at which only one answer may come, and this answer [6.3]."""
    tables = tables_of(schema)
    index = index_of(tables, state)
    require_history(tables, history)
    require_kept(history, kept)
    require_question(tables, thing, relation, user)
    truths = Snapshots(tables, index, history, {user: True}).truths((thing, relation), user)
    others = [k for k, truth in enumerate(truths) if truth != truths[-1] and k >= kept]
    return (others[-1] + 1 if others else 0), truths[-1]


def leaks(schema, state, history, kept, token, first, last, thing, relation, user):
    """Return the snapshots at a token in which a user sees what was never meant for it [6.4]."""
    tables = tables_of(schema)
    index = index_of(tables, state)
    require_history(tables, history)
    require_kept(history, kept)
    require_token(history, token)
    require_stretch(history, first, last)
    require_question(tables, thing, relation, user)
    truths = Snapshots(tables, index, history, {user: True}).truths((thing, relation), user)
    return leaking(truths, max(kept, token), first, last)


def closed_by(schema, state, history, kept, first, last, thing, relation, user):
    """Return the least token at which nothing leaks, or None [6.4]."""
    tables = tables_of(schema)
    index = index_of(tables, state)
    require_history(tables, history)
    require_kept(history, kept)
    require_stretch(history, first, last)
    require_question(tables, thing, relation, user)
    truths = Snapshots(tables, index, history, {user: True}).truths((thing, relation), user)
    found = leaking(truths, kept, first, last)
    if not found:
        return 0
    return found[-1] + 1 if found[-1] < len(history) else None


def leaking(truths, start, first, last):
    """Return the snapshots from `start` on that hold, if none from first to last does, otherwise none."""
    if any(truths[first:last + 1]):
        return []
    return [k for k, truth in enumerate(truths) if truth and k >= start]


def watch(schema, state, history, token, kinds):
    """Return what changed behind a snapshot in rows whose things have some kinds [6.5]."""
    tables = tables_of(schema)
    index = index_of(tables, state)
    require_history(tables, history)
    require_token(history, token)
    if not isinstance(kinds, (list, tuple)):
        raise InvalidKind(kinds)
    for kind in kinds:
        require_thing_kind(tables, kind)
    found = []
    for k, told in enumerate(told_changes(state, history, token)):
        changes = [change for change in told if change[1][0][0] in kinds]
        if changes:
            found.append((token + k + 1, tuple(changes)))
    return found


def came_and_went(schema, state, history, one, other, user):
    """Return the rights that a user has in snapshot `other` alone, and those in snapshot `one` alone [6.6]."""
    tables = tables_of(schema)
    index = index_of(tables, state)
    require_history(tables, history)
    require_token(history, one)
    require_token(history, other)
    require_user(tables, user)
    early = min(one, other)
    late = max(one, other)
    forward(index, changes_for(tables, history[:early], {user: True}))
    came, went = rights_changed_between(tables, index, history[early:late], user)
    return (came, went) if one <= other else (went, came)


def session(schema, state, history, kept, reads):
    """Return the lowest snapshots that can have answered the reads of a session, or None [6.7]."""
    tables = tables_of(schema)
    index = index_of(tables, state)
    require_history(tables, history)
    require_kept(history, kept)
    if not isinstance(reads, (list, tuple)) or len(reads) > MOST_READS:
        raise Mismatch("reads")
    if not all([is_read(tables, history, read) for read in reads]):
        raise Mismatch("reads")
    if not reads:
        return []
    snapshots = Snapshots(tables, index, history, {read[3]: True for read in reads})
    truths = {}
    found = []
    at = 0
    for token, thing, relation, user, answer in reads:
        question = ((thing, relation), user)
        if question not in truths:
            truths[question] = snapshots.truths((thing, relation), user)
        at = max(kept, token, at)
        while at < len(truths[question]) and truths[question][at] != answer:
            at += 1
        if at == len(truths[question]):
            return None
        found.append(at)
    return found


def is_read(tables, history, value):
    """Return whether any object is a read of a history."""
    if not isinstance(value, tuple) or len(value) != 5:
        return False
    token, thing, relation, user, answer = value
    if not is_token(history, token) or not is_thing(tables, thing) or not isinstance(relation, str):
        return False
    return relation in tables.bits[thing[0]] and is_user(tables, user) and isinstance(answer, bool)


def require_kept(history, kept):
    """Raise InvalidNumber for any object that is not the number of a snapshot."""
    if not is_token(history, kept):
        raise InvalidNumber("kept")


def require_stretch(history, first, last):
    """Raise InvalidToken for what is not the first or the last of a row of snapshots."""
    require_token(history, first)
    require_token(history, last)
    if last < first:
        raise InvalidToken(last)


def require_question(tables, thing, relation, user):
    """Raise the error of what is not a thing, a right of it, or a user."""
    require_thing(tables, thing)
    require_right(tables, thing[0], relation)
    require_user(tables, user)
