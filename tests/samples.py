"""Schemas and values that several tests use."""

import sys

from relatedrights import errors
from relatedrights.live import Live

ONE = ("direct", (("one", "user"),))
ANY = ("direct", (("one", "user"), ("all", "user")))

GROUP = ("group", (("member", ("direct", (("one", "user"), ("who", "group", "member")))),))
FOLDER = ("folder", (
    ("up", ("links", ("folder",))),
    ("own", ONE),
    ("see", ("either", (("same", "own"), ("through", "up", "see"), ("direct", (("who", "group", "member"),))))),
))
DOC = ("doc", (
    ("in", ("links", ("folder", "doc"))),
    ("ban", ANY),
    ("own", ("direct", (("one", "user"), ("one", "bot"), ("all", "bot")))),
    ("see", ("but", ("either", (("same", "own"), ("through", "in", "see"))), ("same", "ban"))),
    ("edit", ("both", (("same", "see"), ("direct", (("who", "group", "member"), ("one", "user")))))),
))
SCHEMA = (("user", ()), GROUP, ("bot", ()), FOLDER, DOC)

STATE = [
    (("group", 1), "member", ("one", ("user", 1))),
    (("group", 1), "member", ("who", ("group", 2), "member")),
    (("group", 2), "member", ("one", ("user", 2))),
    (("folder", 1), "own", ("one", ("user", 3))),
    (("folder", 2), "up", ("one", ("folder", 1))),
    (("folder", 2), "see", ("who", ("group", 1), "member")),
    (("doc", 5), "in", ("one", ("folder", 2))),
    (("doc", 5), "own", ("all", "bot")),
    (("doc", 5), "ban", ("one", ("user", 2))),
    (("doc", 5), "edit", ("who", ("group", 1), "member")),
    (("doc", 6), "in", ("one", ("doc", 5))),
    (("doc", 6), "ban", ("all", "user")),
]

# Longer than Python turns into text by itself.
GREAT = 10 ** 5000


def odd_values():
    """Objects of every built-in type but float, and of the interface, of which none is a name or a part of a row."""
    looped = []
    looped.append(looped)
    return [
        None, True, False, -1, -GREAT, 3 + 0j, "", "Doc", "a b", "user\n", "toolonger", "z" * 100000, b"", b"user",
        bytearray(b"user"), memoryview(b"user"), [], ["user"], looped, (), ("user",), (None, None, None),
        [("user", ())], {}, {"user": ()}, set(), {"user"}, frozenset(["user"]), range(2), range(0), slice(1),
        object(), object, int, tuple, type, len, "user".upper, iter([]), (k for k in []), lambda: 0, Ellipsis,
        NotImplemented, ValueError("user"), sys, zip(), map(int, []), enumerate([]), reversed([]), property(),
        deep_tuple(), deep_list(), errors.InvalidUser([]), errors.RightsError, errors.RightsError("user"),
        Live(SCHEMA), Live,
    ]


def deep_tuple(levels=5000):
    """A tuple in a tuple in a tuple .."""
    value = ()
    for _ in range(levels):
        value = (value,)
    return value


def deep_list(levels=5000):
    """A list in a list in a list .."""
    value = []
    for _ in range(levels):
        value = [value]
    return value


def deep_rule(word, levels):
    """A rule of one word that is nested so deep, every other part of it a plain one."""
    rule = ("same", "own")
    for _ in range(levels - 1):
        rule = ("but", rule, ("same", "ban")) if word == "but" else (word, (rule, ("same", "own")))
    return rule


def paths_of(value):
    """All paths to the tuples and entries in nested tuples, the whole ahead of its entries."""
    found = [()]
    if isinstance(value, tuple):
        for k, entry in enumerate(value):
            found.extend([(k,) + path for path in paths_of(entry)])
    return found


def at_path(value, path):
    """What stands at a path in nested tuples."""
    for k in path:
        value = value[k]
    return value


def replaced(value, path, other):
    """Nested tuples with another value at a path."""
    if not path:
        return other
    k = path[0]
    return value[:k] + (replaced(value[k], path[1:], other),) + value[k + 1:]


def told(function, *arguments, **more):
    """What a function raises, as a tuple of the name and the attributes of the error, or ("fine", result)."""
    try:
        return ("fine", function(*arguments, **more))
    except errors.RightsError as error:
        return (type(error).__name__,) + tuple(vars(error).values())
