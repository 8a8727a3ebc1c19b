"""Whole trees: which objects are such, and their trees in reading order.

A tree is taken apart and put together without recursion, for it may be nested without bound.
"""

from relatedrights.errors import InvalidTree
from relatedrights.words import is_name, is_pair

MOST_TREES = 3000
MOST_PLACES = 200


def is_named_pair(value):
    """Return whether any object is a tuple of a name and an integer >= 0."""
    return is_pair(value) and is_name(value[0])


def are_subjects(value):
    """Return whether any object is an ascending tuple of different subjects ("one", user) and ("all", kind)."""
    if not isinstance(value, tuple):
        return False
    last = None
    for subject in value:
        if not isinstance(subject, tuple) or len(subject) != 2:
            return False
        word, told = subject
        if word == "one":
            # This is done with each user of each set, so what `is_named_pair` tests stands here without calls.
            if not isinstance(told, tuple) or len(told) != 2 or type(told[1]) is not int or told[1] < 0:
                return False
            if not is_name(told[0]):
                return False
        elif word != "all" or not is_name(told):
            return False
        if last is not None and last >= subject:
            return False
        last = subject
    return True


def parts_in(tree):
    """Return the tuple of what stands directly in any object, or None if it is no tree by itself."""
    if not isinstance(tree, tuple) or not 2 <= len(tree) <= 4:
        return None
    word = tree[0]
    if not isinstance(word, str):
        return None
    if len(tree) == 2:
        inner = tree[1]
        if word == "set":
            return () if are_subjects(inner) else None
        if (word != "any" and word != "both") or not isinstance(inner, tuple) or (word == "both" and not inner):
            return None
        return inner
    if word == "but":
        return tree[1:] if len(tree) == 3 else None
    if word == "ring" or word == "open":
        fine = len(tree) == (3 if word == "ring" else 4) and is_named_pair(tree[1]) and is_name(tree[2])
        return tree[3:] if fine else None
    return None


def trees_in(tree):
    """Return all trees of a whole tree in reading order, and the number of parts of each, as a tuple of two lists.

    The trees are told as tuples (tree, index of the tree around it, place in that, number of places of the
    path). Raises InvalidTree for any object that is no whole tree.
    """
    found = []
    many = []
    waiting = [(tree, -1, 0, 0)]
    while waiting:
        row = waiting.pop()
        parts = parts_in(row[0])
        depth = row[3]
        found.append(row)
        if parts is None or depth > MOST_PLACES or len(found) > MOST_TREES:
            raise InvalidTree(path_of(found, len(found) - 1))
        many.append(len(parts))
        if parts:
            around = len(found) - 1
            # More parts than can stand there need not be looked at.
            for k in range(min(len(parts), MOST_TREES + 1) - 1, -1, -1):
                waiting.append((parts[k], around, k, depth + 1))
    return found, many


def path_of(rows, at):
    """Return the path of the tree with an index, by where all trees stand."""
    path = []
    _, around, place, depth = rows[at]
    while depth > 0:
        path.append(place)
        _, around, place, depth = rows[around]
    return tuple(path[::-1])


def with_parts(tree, parts):
    """Return a tree with other parts in the place of its own ones."""
    word = tree[0]
    if word == "any" or word == "both":
        return (word, tuple(parts))
    if word == "but":
        return ("but", parts[0], parts[1])
    return (*tree[:3], parts[0]) if word == "open" else tree


def folded(trees, many, join):
    """Return what `join` makes of a tree and the list of what it made of its parts, for the whole.

    trees: those of a whole tree, in reading order; many: how many parts each of them has.
    """
    made = []
    for k in range(len(trees) - 1, -1, -1):
        # Those that come later in reading order were made first, so the first part lies on top.
        made.append(join(trees[k], [made.pop() for _ in range(many[k])] if many[k] else []))
    return made[0]


def without_nobody(tree, parts):
    """Return a tree of pruned parts (None for one that is left out) without what brings nobody, or None."""
    word = tree[0]
    if word == "set":
        return tree if tree[1] else None
    if word == "ring":
        return None
    if word == "open":
        return None if parts[0] is None else with_parts(tree, parts)
    if word == "but":
        return parts[0] if parts[0] is None or parts[1] is None else with_parts(tree, parts)
    left = [part for part in parts if part is not None]
    if word == "both" and len(left) < len(parts):
        return None
    if len(left) > 1:
        return with_parts(tree, left)
    return left[0] if left else None
