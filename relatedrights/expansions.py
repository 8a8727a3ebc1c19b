"""Expansions: of whom the users of a right are made up, as trees and as lists."""

from relatedrights.askers import Asker
from relatedrights.errors import InvalidNumber, InvalidUser, TooLarge
from relatedrights.holders import Holders
from relatedrights.rows import index_of, is_thing, require_thing, require_user
from relatedrights.rules import parts_of
from relatedrights.tables import require_right, require_thing_kind, tables_of
from relatedrights.trees import (
    MOST_PLACES, MOST_TREES, folded, is_named_pair, path_of, trees_in, with_parts, without_nobody,
)
from relatedrights.words import is_number


def expand(schema, state, thing, relation):
    """Return the tree of the rule of a right, one step deep [5.1]."""
    tables = tables_of(schema)
    index = index_of(tables, state)
    require_thing(tables, thing)
    require_right(tables, thing[0], relation)
    return tree_of(index, (thing, relation), tables.kinds[thing[0]][relation])


def tree_of(index, node, rule):
    """Return the tree of a part of the rule of a right to a thing, one step deep."""
    thing, relation = node
    word = rule[0]
    if word == "same":
        return ("users", thing, rule[1])
    if word == "through":
        others = sorted([subject[1] for subject in index.plain(thing[0], rule[1]).get(thing, {})])
        return ("any", tuple([("users", other, rule[2]) for other in others]))
    if word == "direct":
        plain = sorted(list(index.plain(thing[0], relation).get(thing, {})))
        whos = sorted(list(index.whos(thing[0], relation).get(thing, {})))
        return ("any", (("set", tuple(plain)), *[("users", other, name) for _, other, name in whos]))
    trees = [tree_of(index, node, part) for part in parts_of(rule)]
    if word == "but":
        return ("but", trees[0], trees[1])
    return ("any" if word == "either" else "both", tuple(trees))


def unfold(schema, state, thing, relation):
    """Return the tree of a right, in which all that it reads is unfolded, too [5.2]."""
    tables = tables_of(schema)
    index = index_of(tables, state)
    require_thing(tables, thing)
    require_right(tables, thing[0], relation)
    return Unfolder(tables, index).unfolded((thing, relation))


class Unfolder:
    """Unfolds rights; a NODE is a right to a thing.

    met: what was come to, in reading order, without its parts; many: how many parts each of these has. around:
    the nodes of which an open stands around the next place.
    """

    def __init__(self, tables, index):
        self.tables = tables
        self.index = index
        self.met = []
        self.around = {}
        self.trees = {}
        self.many = []

    def unfolded(self, root):
        """Return the unfolded tree of a node, or raise TooLarge."""
        # Entries are (tree, number of its places); behind what stands in an open, its node is taken off.
        waiting = [(("users", root[0], root[1]), 0)]
        while waiting:
            tree, depth = waiting.pop()
            if tree[0] == "close":
                del self.around[tree[1:]]
                continue
            if len(self.met) == MOST_TREES or depth > MOST_PLACES:
                raise TooLarge(MOST_TREES)
            if tree[0] == "users":
                tree, parts = self.opened(tree[1:])
            else:
                parts = tree[1:] if tree[0] == "but" else tree[1] if tree[0] != "set" else ()
            self.met.append(tree)
            self.many.append(len(parts))
            if tree[0] == "open":
                waiting.append((("close", tree[1], tree[2]), 0))
            waiting.extend([(part, depth + 1) for part in reversed(parts)])
        return folded(self.met, self.many, with_parts)

    def opened(self, node):
        """Return what stands in the place of the users of a node, without its parts, and these."""
        if node in self.around:
            return ("ring", node[0], node[1]), ()
        self.around[node] = True
        if node not in self.trees:
            rule = self.tables.kinds[node[0][0]][node[1]]
            self.trees[node] = tree_of(self.index, node, rule)
        return ("open", node[0], node[1]), (self.trees[node],)


def is_in(tree, user):
    """Return whether a user is one of those in a whole tree [5.3]."""
    rows, many = trees_in(tree)
    require_named_pair(user)
    own_subject = ("one", user)
    kind_subject = ("all", user[0])

    def has_user(one, truths):
        """Return whether the user is in a tree, by whether it is in its parts."""
        if one[0] == "set":
            return own_subject in one[1] or kind_subject in one[1]
        if one[0] == "but":
            return truths[0] and not truths[1]
        return all(truths) if one[0] == "both" else any(truths)

    return folded([row[0] for row in rows], many, has_user)


def places(tree, user):
    """Return the paths of all sets in a whole tree whose subjects name a user, ascending [5.3]."""
    rows, _ = trees_in(tree)
    require_named_pair(user)
    own_subject = ("one", user)
    kind_subject = ("all", user[0])
    found = []
    for k, row in enumerate(rows):
        word = row[0][0]
        if word == "set" and (own_subject in row[0][1] or kind_subject in row[0][1]):
            found.append(path_of(rows, k))
    return found


def pruned(tree):
    """Return a whole tree without what brings nobody, or None if nothing is left [5.3]."""
    rows, many = trees_in(tree)
    return folded([row[0] for row in rows], many, without_nobody)


def require_named_pair(user):
    """Raise InvalidUser for any object that is not a tuple of a name and an integer >= 0."""
    if not is_named_pair(user):
        raise InvalidUser(user)


def listed(schema, state, thing, relation):
    """Return the list of those that have a right, by bare kinds [5.4]."""
    tables = tables_of(schema)
    index = index_of(tables, state)
    require_thing(tables, thing)
    require_right(tables, thing[0], relation)
    users, kinds = Holders(tables, index, [(thing, relation)]).holders_of((thing, relation))
    had = {user: True for user in users}
    named = index.users() if kinds else []
    found = []
    for kind in tables.bare_kinds():
        if kind in kinds:
            found.append(("all", kind, tuple([user for user in named if user[0] == kind and user not in had])))
        else:
            found.extend([("one", user) for user in users if user[0] == kind])
    return found


def things(schema, state, user, kind, relation):
    """Return the things of a kind to which a user has a right, ascending [5.5]."""
    tables = tables_of(schema)
    index = index_of(tables, state)
    require_user(tables, user)
    require_thing_kind(tables, kind)
    require_right(tables, kind, relation)
    return things_had(tables, index, user, kind, relation)


def things_had(tables, index, user, kind, relation):
    """Return the things of a kind to which a user has a right, ascending."""
    asker = Asker(tables, index, user)
    return [thing for thing in index.things() if thing[0] == kind and asker.has(thing, relation)]


def page(schema, state, user, kind, relation, size, after):
    """Return the first things behind one to which a user has a right, and where to go on, or None [5.5]."""
    tables = tables_of(schema)
    index = index_of(tables, state)
    require_user(tables, user)
    require_thing_kind(tables, kind)
    require_right(tables, kind, relation)
    if not is_number(size) or size < 1:
        raise InvalidNumber("size")
    if after is not None and (not is_thing(tables, after) or after[0] != kind):
        raise InvalidNumber("after")
    had = things_had(tables, index, user, kind, relation)
    behind = [thing for thing in had if after is None or thing > after]
    return behind[:size], behind[size - 1] if len(behind) > size else None


def compared(schema, state, thing, relation, other, other_relation):
    """Return how those that have a right compare with those that have another one [5.6]."""
    tables = tables_of(schema)
    index = index_of(tables, state)
    require_thing(tables, thing)
    require_right(tables, thing[0], relation)
    require_thing(tables, other)
    require_right(tables, other[0], other_relation)
    nodes = [(thing, relation), (other, other_relation)]
    holders = Holders(tables, index, nodes)
    first = holders.masks.get(nodes[0], 0)
    second = holders.masks.get(nodes[1], 0)
    if first == second:
        return "same"
    if first & second == first:
        return "less"
    if first & second == second:
        return "more"
    return "cross" if first & second else "apart"
