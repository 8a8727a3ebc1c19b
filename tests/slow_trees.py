"""Stages 5 and 6 of the document once more, as plainly and slowly as can be, to compare with."""

import re

from tests.slow import rule_of
from tests.slow_rounds import subjects_at


def expanded(state, thing, relation, rule):
    word = rule[0]
    if word == "direct":
        subjects = subjects_at(state, thing, relation)
        plain = tuple(s for s in subjects if s[0] != "who")
        return ("any", (("set", plain),) + tuple(("users",) + s[1:] for s in subjects if s[0] == "who"))
    if word == "same":
        return ("users", thing, rule[1])
    if word == "through":
        return ("any", tuple(("users", s[1], rule[2]) for s in subjects_at(state, thing, rule[1])))
    if word == "but":
        return ("but",) + tuple(expanded(state, thing, relation, part) for part in rule[1:])
    return ("any" if word == "either" else "both",
            tuple(expanded(state, thing, relation, part) for part in rule[1]))


class Large(Exception):
    pass


class Unfolding:
    """Unfolds by recursion; counts the trees, and how many places stand ahead of them."""

    def __init__(self, schema, state):
        self.schema = schema
        self.state = state
        self.many = 0

    def tree(self, thing, relation, around=(), depth=0):
        if (thing, relation) in around:
            self.count(depth)
            return ("ring", thing, relation)
        self.count(depth)
        inner = expanded(self.state, thing, relation, rule_of(self.schema, thing[0], relation))
        return ("open", thing, relation, self.put_in(inner, around + ((thing, relation),), depth + 1))

    def count(self, depth):
        self.many += 1
        if self.many > 3000 or depth > 200:
            raise Large

    def put_in(self, tree, around, depth):
        if tree[0] == "users":
            return self.tree(tree[1], tree[2], around, depth)
        self.count(depth)
        if tree[0] == "set":
            return tree
        if tree[0] == "but":
            return ("but",) + tuple(self.put_in(part, around, depth + 1) for part in tree[1:])
        return (tree[0], tuple(self.put_in(part, around, depth + 1) for part in tree[1]))


def parts_of(tree):
    """The parts of a tree, None for what is none by itself."""
    fine_name = lambda value: isinstance(value, str) and re.fullmatch("[a-z]{1,8}", value)  # noqa: E731

    def pair(value):
        return isinstance(value, tuple) and len(value) == 2 and fine_name(value[0]) and (
            type(value[1]) is int and value[1] >= 0)

    def subject(value):
        return isinstance(value, tuple) and len(value) == 2 and (
            value[0] == "one" and pair(value[1]) or value[0] == "all" and fine_name(value[1]))

    match tree:
        case ("set", tuple() as subjects) if isinstance(tree, tuple):
            fine = all(subject(one) for one in subjects) and list(subjects) == sorted(set(subjects))
            return () if fine else None
        case ("any", tuple() as parts) if isinstance(tree, tuple):
            return parts
        case ("both", tuple() as parts) if isinstance(tree, tuple) and parts:
            return parts
        case ("but", first, second) if isinstance(tree, tuple):
            return (first, second)
        case ("ring", thing, relation) if isinstance(tree, tuple) and pair(thing) and fine_name(relation):
            return ()
        case ("open", thing, relation, inner) if isinstance(tree, tuple) and pair(thing) and fine_name(relation):
            return (inner,)
    return None


def first_wrong(tree):
    """The first path at which no whole tree stands, or None."""
    state = [0]

    def visit(one, path):
        parts = parts_of(one)
        if parts is None or len(path) > 200 or state[0] == 3000:
            return path
        state[0] += 1
        for k, part in enumerate(parts):
            wrong = visit(part, path + (k,))
            if wrong is not None:
                return wrong
        return None

    return visit(tree, ())


def has_user(tree, user):
    if tree[0] == "set":
        return ("one", user) in tree[1] or ("all", user[0]) in tree[1]
    truths = [has_user(part, user) for part in parts_of(tree)]
    if tree[0] == "but":
        return truths[0] and not truths[1]
    return all(truths) if tree[0] == "both" else any(truths)


def paths_to(tree, user, path=()):
    if tree[0] == "set":
        return [path] if has_user(tree, user) else []
    return [found for k, part in enumerate(parts_of(tree)) for found in paths_to(part, user, path + (k,))]


def cut(tree):
    word = tree[0]
    if word == "set":
        return tree if tree[1] else None
    if word == "ring":
        return None
    parts = [cut(part) for part in parts_of(tree)]
    if word == "open":
        return parts[0] and tree[:3] + (parts[0],)
    if word == "but":
        return (parts[0] and parts[1]) and ("but", parts[0], parts[1]) or parts[0]
    left = tuple(part for part in parts if part)
    if not left or word == "both" and len(left) < len(parts):
        return None
    return left[0] if len(left) == 1 else (word, left)


def snapshots(state, history):
    """The sets of rows of all snapshots."""
    found = [set(state)]
    for write in history:
        rows = set(found[-1])
        for word, row in write:
            if word == "put":
                rows.add(row)
            else:
                rows.discard(row)
        found.append(rows)
    return found
