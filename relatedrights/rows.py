"""Objects, rows and states: which values are such, and the rows of a state by what they tell."""

from relatedrights.errors import InvalidObject, InvalidState, InvalidUser
from relatedrights.rules import is_link_like, is_thing_kind, is_user_kind
from relatedrights.words import is_number, is_tuple

MOST_ROWS = 2000


def is_thing(tables, value):
    """Return whether any object is a thing."""
    return is_tuple(value, 2, 2) and is_thing_kind(tables.kinds, value[0]) and is_number(value[1])


def is_user(tables, value):
    """Return whether any object is a user."""
    return is_tuple(value, 2, 2) and is_user_kind(tables.kinds, value[0]) and is_number(value[1])


def is_row(tables, value):
    """Return whether any object is a row."""
    if not is_tuple(value, 3, 3) or not is_thing(tables, value[0]) or not isinstance(value[1], str):
        return False
    thing, relation, subject = value
    rule = tables.kinds[thing[0]].get(relation)
    if rule is None or not is_tuple(subject, 2, 3) or not isinstance(subject[0], str):
        return False
    if is_link_like(rule):
        return is_link_subject(tables, rule[1], subject)
    return form_of(tables, subject) in tables.forms[(thing[0], relation)]


def is_link_subject(tables, kinds, subject):
    """Return whether a tuple that begins with a word is the subject of a link to these kinds."""
    if len(subject) != 2 or subject[0] != "one" or not is_thing(tables, subject[1]):
        return False
    return subject[1][0] in kinds


def form_of(tables, subject):
    """Return the form by which a tuple that begins with a word is written, or None."""
    word = subject[0]
    if word == "who":
        if len(subject) == 3 and is_thing(tables, subject[1]) and isinstance(subject[2], str):
            return (word, subject[1][0], subject[2])
    elif len(subject) == 2:
        if word == "one" and is_user(tables, subject[1]):
            return (word, subject[1][0])
        if word == "all" and isinstance(subject[1], str):
            return subject
    return None


def require_thing(tables, value):
    """Raise InvalidObject for any object that is not a thing."""
    if not is_thing(tables, value):
        raise InvalidObject(value)


def require_user(tables, value):
    """Raise InvalidUser for any object that is not a user."""
    if not is_user(tables, value):
        raise InvalidUser(value)


def index_of(tables, state):
    """Return the index of a state, or raise InvalidState."""
    if not isinstance(state, (list, tuple)) or len(state) > MOST_ROWS:
        raise InvalidState(-1)
    for k, row in enumerate(state):
        if not is_row(tables, row):
            raise InvalidState(k)
    return Index(tables, state)


class Index:
    """The rows of a state by what they tell; there may be any number of them.

    things and users: those that rows name. By (thing, relation): links, the things to which a link
    leads; ones, alls and whos, the users, the bare kinds and the rights (thing, relation) that the
    subjects of a right tell. All these are dicts of True, for each thing told once.
    """

    def __init__(self, tables, rows):
        self.things = {}
        self.users = {}
        self.links = {}
        self.ones = {}
        self.alls = {}
        self.whos = {}
        for thing, relation, subject in rows:
            self.things[thing] = True
            if is_link_like(tables.kinds[thing[0]][relation]):
                self.things[subject[1]] = True
                self.links.setdefault((thing, relation), {})[subject[1]] = True
            else:
                self.take_in((thing, relation), subject)

    def take_in(self, right, subject):
        """Take in a row of a right to a thing."""
        if subject[0] == "one":
            self.users[subject[1]] = True
            self.ones.setdefault(right, {})[subject[1]] = True
        elif subject[0] == "all":
            self.alls.setdefault(right, {})[subject[1]] = True
        else:
            self.things[subject[1]] = True
            self.whos.setdefault(right, {})[subject[1:]] = True

    def read_by(self, thing, relation, leaf):
        """Return the rights to things that a leaf of the rule of a right to a thing reads."""
        if leaf[0] == "direct":
            return list(self.whos.get((thing, relation), {}))
        if leaf[0] == "same":
            return [(thing, leaf[1])]
        return [(other, leaf[2]) for other in self.links.get((thing, leaf[1]), {})]
