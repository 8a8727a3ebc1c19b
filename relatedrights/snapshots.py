"""Whether a user has a right in each of many snapshots, for all of them at once."""

from relatedrights.worlds import Worlds


def truths_behind(tables, index, writes, node, user):
    """Return whether a user has a node behind 0, 1, 2 .. lists of changes of the state of an index, in their order."""
    many = len(writes) + 1
    every = (1 << many) - 1
    patterns = {}
    for k, write in enumerate(writes):
        later = every >> k + 1 << k + 1
        for word, row in write:
            if row not in patterns:
                patterns[row] = every if index.has(row) else 0
            if patterns[row] >> many - 1 & 1 != (word == "put"):
                patterns[row] ^= later
    worlds = Worlds(tables, index, many, patterns)
    worlds.look_for([node], [user])
    pattern = worlds.worlds_of(node, user)
    return [pattern >> k & 1 == 1 for k in range(many)]
