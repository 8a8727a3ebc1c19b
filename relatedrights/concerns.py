"""Concerns: which objects are such, and in which states it is with them as in another one."""

from relatedrights.errors import Mismatch
from relatedrights.tables import is_right
from relatedrights.worlds import Worlds

MOST_CONCERNS = 36


def require_concerns(tables, concerns):
    """Raise Mismatch for any object that is not a list or tuple of concerns."""
    if not isinstance(concerns, (list, tuple)) or not 1 <= len(concerns) <= MOST_CONCERNS:
        raise Mismatch("concerns")
    found = {}
    for concern in concerns:
        if not isinstance(concern, tuple) or len(concern) != 2 or not is_right(tables, concern[0], concern[1]):
            raise Mismatch("concerns")
        found[concern] = True
    if len(found) < len(concerns):
        raise Mismatch("concerns")


class Concerned:
    """The rights that concerns tell, to all things that are named in some worlds [worlds.py].

    nodes: in the order of the concerns, things ascending, those that are not the same in all of them.
    """

    def __init__(self, tables, index, concerns, many, patterns, users=()):
        self.worlds = Worlds(tables, index, many, patterns)
        self.nodes = []
        if patterns:
            things = index.things()
            nodes = [(thing, relation) for kind, relation in concerns for thing in things if thing[0] == kind]
            self.nodes = self.worlds.look_for_all(nodes, users)

    def worlds_apart(self):
        """Return the pattern of the worlds that do not agree with world 0."""
        return self.worlds.worlds_apart(self.nodes)

    def first_difference(self):
        """Return the first difference of the worlds 0 and 1, of which there are no others, or None."""
        for thing, relation in self.nodes:
            users = [self.least(user) for user, _ in self.worlds.changed_by_user((thing, relation))]
            if users:
                user = min(users)
                word = "lost" if self.worlds.has((thing, relation), user, 0) else "gained"
                return (thing, relation, user, word)
        return None

    def changes_told(self, node, named):
        """Return by whom the worlds 0 and 1 differ in a node, as tuples (who, word): named users, then bare kinds."""
        changed = {user: True for user, _ in self.worlds.changed_by_user(node)}
        if not changed:
            return []
        words = {user: "lost" if self.worlds.has(node, user, 0) else "gained" for user in changed}
        found = [(user, words[self.stand_in(user)]) for user in named if self.stand_in(user) in words]
        kinds = self.worlds.tables.bare_kinds()
        return found + [(kind, words[(kind, -1)]) for kind in kinds if (kind, -1) in words]

    def stand_in(self, user):
        """Return the user that is followed in the place of any user."""
        return user if user in self.worlds.places else (user[0], -1)

    def weighed(self, named, left_out):
        """Return tuples (pattern, number): so many named users, or kinds, are not with a right as in world 0.

        left_out: a dict of True for tuples (thing, relation, user) that do not count.
        """
        standing = {}
        for user in named:
            other = self.stand_in(user)
            standing[other] = standing.get(other, 0) + 1
        found = []
        for thing, relation in self.nodes:
            for user, pattern in self.worlds.changed_by_user((thing, relation)):
                if (thing, relation, user) not in left_out:
                    # A user that stands for a kind is an effect of its own, too.
                    found.append((pattern, standing.get(user, 0) + (1 if user[1] < 0 else 0)))
        return found

    def least(self, user):
        """Return a user, or the least one of those for whom it stands."""
        kind, number = user
        if number < 0:
            number = 0
            while (kind, number) in self.worlds.places:
                number += 1
        return (kind, number)
