"""A live store: rows that change, with the snapshots that changes make."""

from relatedrights.errors import InvalidToken
from relatedrights.rows import Index, require_thing, require_user
from relatedrights.rulings import Writing, require_change, rules_of
from relatedrights.snapshots import Snapshots
from relatedrights.tables import require_right, tables_of


class Live:
    """A store; at first it has no rows.

    first: the token of the oldest snapshot that is left; base: its rows, as a dict of True; log: the changes
    behind it, as tuples (user, change).
    """

    def __init__(self, schema, rules=()):
        self.schema = schema
        self.tables = tables_of(schema)
        self.rules = rules_of(self.tables, rules)
        self.writing = Writing(self.tables, self.rules, Index(self.tables))
        self.first = 0
        self.base = {}
        self.log = []

    def do(self, user, change):
        """Do a change, if the user, or the keeper, may; return whether it was done."""
        if user is not None:
            require_user(self.tables, user)
        require_change(self.tables, change)
        fine = self.writing.alters(change) if user is None else self.writing.may(user, change)
        if fine:
            self.writing.do(change)
            self.log.append((user, change))
        return fine

    def latest(self):
        """Return the newest token."""
        return self.first + len(self.log)

    def oldest(self):
        """Return the oldest token that is left."""
        return self.first

    def content(self, token=None):
        """Return the rows in a snapshot, ascending."""
        return self.writing_at(self.place_of(token, True)).index.rows()

    def check(self, thing, relation, user, token=None):
        """Return whether a user has a right in a snapshot."""
        self.require_question(thing, relation, user)
        return self.writing_at(self.place_of(token, True)).has(thing, relation, user)

    def answers(self, thing, relation, user, token):
        """Return the answer in a snapshot, and each later one that is another than the one ahead of it."""
        self.require_question(thing, relation, user)
        place = self.place_of(token, False)
        writes = [[change] for _, change in self.log[place:]]
        snapshots = Snapshots(self.tables, self.new_writing(place).index, writes, {user: True})
        truths = snapshots.truths((thing, relation), user)
        return [(token + k, truth) for k, truth in enumerate(truths) if k == 0 or truth != truths[k - 1]]

    def since(self, token):
        """Return the changes behind a snapshot, as tuples (token, user, change)."""
        place = self.place_of(token, False)
        return [(token + k + 1, user, change) for k, (user, change) in enumerate(self.log[place:])]

    def forget(self, token):
        """Let go all snapshots ahead of this one."""
        place = self.place_of(token, False)
        self.base = {row: True for row in self.writing_at(place).index.rows()}
        self.log = self.log[place:]
        self.first = token

    def fork(self):
        """Return an equal store that changes independently of this one."""
        other = Live(self.schema, [(*relation, *rights) for relation, rights in self.rules.items()])
        other.first = self.first
        other.base = {row: True for row in self.base}
        other.log = list(self.log)
        other.writing = self.new_writing(len(self.log))
        return other

    def __eq__(self, other):
        """Return whether any object is an equal store."""
        if not isinstance(other, Live):
            return False
        if self.schema != other.schema or list(self.rules.items()) != list(other.rules.items()):
            return False
        if self.first != other.first or self.base != other.base:
            return False
        return [change for _, change in self.log] == [change for _, change in other.log]

    def place_of(self, token, may_be_newest):
        """Return how many changes behind the oldest snapshot one is, or raise InvalidToken."""
        if token is None and may_be_newest:
            return len(self.log)
        if type(token) is not int or not self.first <= token <= self.latest():
            raise InvalidToken(token)
        return token - self.first

    def writing_at(self, place):
        """Return the state of the snapshot so many changes behind the oldest one, which must not be changed."""
        return self.writing if place == len(self.log) else self.new_writing(place)

    def new_writing(self, place):
        """Return the same, to be changed at will."""
        index = Index(self.tables)
        index.read(list(self.base))
        writing = Writing(self.tables, self.rules, index)
        for _, change in self.log[:place]:
            writing.do(change)
        return writing

    def require_question(self, thing, relation, user):
        """Raise the error of what is not a thing, a right of it, or a user."""
        require_thing(self.tables, thing)
        require_right(self.tables, thing[0], relation)
        require_user(self.tables, user)
