"""Whole trees: which objects are such, and their trees in reading order.

A tree is taken apart and put together without recursion, for it may be nested without bound.
"""

from relatedrights.errors import InvalidTree
from relatedrights.words import is_name, is_number

MOST_TREES = 3000
MOST_PLACES = 200


def is_subject(value):
    """Return whether any object is a subject ("one", user) or ("all", kind), of any names."""
    if not isinstance(value, tuple) or len(value) != 2 or not isinstance(value[0], str):
        return False
    if value[0] == "all":
        return is_name(value[1])
    return value[0] == "one" and is_named_pair(value[1])


def is_named_pair(value):
    """Return whether any object is a tuple of a name and an integer >= 0."""
    return isinstance(value, tuple) and len(value) == 2 and is_name(value[0]) and is_number(value[1])


def are_subjects(value):
    """Return whether any object is an ascending tuple of different subjects."""
    if not isinstance(value, tuple):
        return False
    for k, subject in enumerate(value):
        if not is_subject(subject) or (k > 0 and value[k - 1] >= subject):
            return False
    return True


def parts_in(tree):
    """Return the tuple of what stands directly in any object, or None if it is no tree by itself."""
    if not isinstance(tree, tuple) or not 2 <= len(tree) <= 4 or not isinstance(tree[0], str):
        return None
    word = tree[0]
    if word == "but":
        return tree[1:] if len(tree) == 3 else None
    if word == "ring" or word == "open":
        fine = len(tree) == (3 if word == "ring" else 4) and is_named_pair(tree[1]) and is_name(tree[2])
        return tree[3:] if fine else None
    if len(tree) != 2:
        return None
    if word == "set":
        return () if are_subjects(tree[1]) else None
    if (word != "any" and word != "both") or not isinstance(tree[1], tuple) or (word == "both" and not tree[1]):
        return None
    return tree[1]


def trees_in(tree):
    """Return all trees of a whole tree in reading order, as tuples (path, tree, number of its parts).

    Raises InvalidTree for any object that is no whole tree.
    """
    found = []
    path = []
    # For each tree around the next one: its parts, and how many of them have been come to.
    around = [[(tree,), 0]]
    while around:
        parts, done = around[-1]
        if done == len(parts):
            around.pop()
            if path:
                path.pop()
            continue
        around[-1][1] += 1
        if len(around) > 1:
            path.append(done)
        inner = parts_in(parts[done])
        if inner is None or len(path) > MOST_PLACES or len(found) == MOST_TREES:
            raise InvalidTree(tuple(path))
        found.append((tuple(path), parts[done], len(inner)))
        around.append([inner, 0])
    return found


def with_parts(tree, parts):
    """Return a tree with other parts in the place of its own ones."""
    word = tree[0]
    if word == "any" or word == "both":
        return (word, tuple(parts))
    if word == "but":
        return ("but", parts[0], parts[1])
    return (*tree[:3], parts[0]) if word == "open" else tree


def folded(rows, join):
    """Return what `join` makes of a tree and the list of what it made of its parts, for the whole.

    rows: tuples (tree, number of its parts) of a whole tree, in reading order.
    """
    made = []
    for tree, many in reversed(rows):
        # Those that come later in reading order were made first, so the first part lies on top.
        parts = [made.pop() for _ in range(many)]
        made.append(join(tree, parts))
    return made[0]


def names_user(subjects, user):
    """Return whether subjects name a user, by itself or by its kind."""
    return ("one", user) in subjects or ("all", user[0]) in subjects


def without_nobody(tree, parts):
    """Return a tree of pruned parts (None for one that is left out) without what brings nobody, or None."""
    word = tree[0]
    if word == "set":
        return tree if tree[1] else None
    if word == "ring":
        return None
    if word == "open":
        return None if parts[0] is None else with_parts(tree, parts)
    if word == "but":
        return parts[0] if parts[0] is None or parts[1] is None else with_parts(tree, parts)
    left = [part for part in parts if part is not None]
    if word == "both" and len(left) < len(parts):
        return None
    if len(left) > 1:
        return with_parts(tree, left)
    return left[0] if left else None
