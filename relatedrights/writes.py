"""Changes, writes and histories: which objects are such, and the snapshots that they make."""

from relatedrights.errors import InvalidChange, InvalidToken
from relatedrights.rows import are_rows

MOST_CHANGES = 50
MOST_WRITES = 200


def is_write(tables, value):
    """Return whether any object is a write."""
    if not isinstance(value, (list, tuple)) or len(value) > MOST_CHANGES:
        return False
    for change in value:
        # This is done with each change of each history, so what `is_change_like` tests stands here without calls.
        if not isinstance(change, tuple) or len(change) != 2 or (change[0] != "put" and change[0] != "take"):
            return False
    rows = [row for _, row in value]
    return are_rows(tables, rows) and len(set(rows)) == len(rows)


def is_change_like(value):
    """Return whether any object is a tuple of "put" or "take" and something."""
    return isinstance(value, tuple) and len(value) == 2 and (value[0] == "put" or value[0] == "take")


def require_history(tables, history):
    """Raise InvalidChange for any object that is not a history."""
    if not isinstance(history, (list, tuple)) or len(history) > MOST_WRITES:
        raise InvalidChange(-1)
    # One history is mostly asked for many times in a row. What is equal to it can differ from it in numbers only.
    if tables.history is not None and history == tables.history and has_plain_numbers(history):
        return
    for k, write in enumerate(history):
        if not is_write(tables, write):
            raise InvalidChange(k)
    copied = [list(write) if isinstance(write, list) else write for write in history]
    tables.history = copied if isinstance(history, list) else tuple(copied)


def has_plain_numbers(history):
    """Return whether all numbers in what is equal to a history are integers."""
    for write in history:
        for _, (thing, _, subject) in write:
            if type(thing[1]) is not int or (subject[0] != "all" and type(subject[1][1]) is not int):
                return False
    return True


def is_token(history, value):
    """Return whether any object is the number of a snapshot of a history."""
    return type(value) is int and 0 <= value <= len(history)


def require_token(history, token):
    """Raise InvalidToken for any object that is not the number of a snapshot."""
    if not is_token(history, token):
        raise InvalidToken(token)


def forward(index, lists):
    """Do lists of changes, one after another, in an index."""
    # Of the changes of a row the last one counts.
    last = {row: word for changes in lists for word, row in changes}
    for row, word in last.items():
        if word == "put":
            index.put(row)
        else:
            index.take(row)


def rows_at(state, history, token):
    """Return {row: whether it is there} in a snapshot, for the rows that the state or an earlier write tells."""
    there = {row: True for row in state}
    # Of the changes of a row the last one counts.
    there.update({row: word == "put" for write in history[:token] for word, row in write})
    return there


def told_changes(state, history, start):
    """Return for each write from `start` on the changes that change something."""
    there = rows_at(state, history, start)
    found = []
    for write in history[start:]:
        changes = []
        for change in write:
            put = change[0] == "put"
            if there.get(change[1], False) != put:
                there[change[1]] = put
                changes.append(change)
        found.append(changes)
    return found
