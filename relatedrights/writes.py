"""Changes, writes and histories: which objects are such, and the snapshots that they make."""

from relatedrights.askers import Asker
from relatedrights.errors import InvalidChange, InvalidToken
from relatedrights.rows import Index

MOST_CHANGES = 50
MOST_WRITES = 200


def is_write(scratch, value):
    """Return whether any object is a write; its rows are put into an index that is of no other use."""
    if not isinstance(value, (list, tuple)) or len(value) > MOST_CHANGES:
        return False
    if not all([is_change_like(change) for change in value]):
        return False
    rows = [change[1] for change in value]
    return scratch.read(rows) is None and len(set(rows)) == len(rows)


def is_change_like(value):
    """Return whether any object is a tuple of "put" or "take" and something."""
    if not isinstance(value, tuple) or len(value) != 2 or not isinstance(value[0], str):
        return False
    return value[0] == "put" or value[0] == "take"


def require_history(tables, history):
    """Raise InvalidChange for any object that is not a history."""
    if not isinstance(history, (list, tuple)) or len(history) > MOST_WRITES:
        raise InvalidChange(-1)
    scratch = Index(tables)
    for k, write in enumerate(history):
        if not is_write(scratch, write):
            raise InvalidChange(k)


def is_token(history, value):
    """Return whether any object is the number of a snapshot of a history."""
    return type(value) is int and 0 <= value <= len(history)


def require_token(history, token):
    """Raise InvalidToken for any object that is not the number of a snapshot."""
    if not is_token(history, token):
        raise InvalidToken(token)


def written(index, write):
    """Make the changes of a write in an index, and return the list of those that change something."""
    found = []
    for change in write:
        word, row = change
        if index.has(row) != (word == "put"):
            if word == "put":
                index.put(row)
            else:
                index.take(row)
            found.append(change)
    return found


def forward(index, history, start, end):
    """Make an index of snapshot `start` one of snapshot `end`."""
    for write in history[start:end]:
        written(index, write)


def truths_from(tables, index, history, start, node, user):
    """Return for each snapshot from `start` on whether a user has a right; the index is that of snapshot 0."""
    forward(index, history, 0, start)
    asker = Asker(tables, index, user)
    found = [asker.has(node[0], node[1])]
    for write in history[start:]:
        changes = written(index, write)
        seen = asker.things_seen() if changes else {}
        if any([row[0] in seen for _, row in changes]):
            asker = Asker(tables, index, user)
        found.append(asker.has(node[0], node[1]))
    return found
