"""Rules of writing, steps and companies: which objects are such, and who may do what in a state that changes."""

from relatedrights.askers import Asker
from relatedrights.errors import InvalidChange, InvalidRules, InvalidUser, Mismatch
from relatedrights.rows import is_row, is_user
from relatedrights.rules import has_but, is_thing_kind
from relatedrights.tables import is_right
from relatedrights.writes import is_change_like

MOST_MEMBERS = 6


def rules_of(tables, rules):
    """Return {(kind, relation): (put, take)} for rules, or raise InvalidRules."""
    if not isinstance(rules, (list, tuple)):
        raise InvalidRules(-1)
    found = {}
    for k, entry in enumerate(rules):
        if not is_rule(tables, entry) or entry[:2] in found:
            raise InvalidRules(k)
        found[entry[:2]] = entry[2:]
    return found


def is_rule(tables, value):
    """Return whether any object is a rule of writing by itself."""
    if not isinstance(value, tuple) or len(value) != 4 or not is_thing_kind(tables.kinds, value[0]):
        return False
    kind, relation, put, take = value
    if not isinstance(relation, str) or relation not in tables.kinds[kind] or not any(tables.forms[kind][relation]):
        return False
    return (put is None or is_right(tables, kind, put)) and (take is None or is_right(tables, kind, take))


def require_company(tables, company):
    """Raise InvalidUser for any object that is not a list or tuple of at most six different users."""
    if not isinstance(company, (list, tuple)) or len(company) > MOST_MEMBERS:
        raise InvalidUser(company)
    if not all([is_user(tables, member) for member in company]) or len(set(company)) < len(company):
        raise InvalidUser(company)


def require_no_buts(tables):
    """Raise Mismatch for a schema with a but."""
    if any([has_but(tables.kinds[kind][right]) for kind, right in tables.rights()]):
        raise Mismatch("schema")


def is_change(tables, value):
    """Return whether any object is a change."""
    return is_change_like(value) and is_row(tables, value[1])


def is_step(tables, value):
    """Return whether any object is a step."""
    if not isinstance(value, tuple) or len(value) != 2:
        return False
    return is_user(tables, value[0]) and is_change(tables, value[1])


def require_change(tables, change):
    """Raise InvalidChange for any object that is not a change."""
    if not is_change(tables, change):
        raise InvalidChange(0)


def require_steps(tables, steps):
    """Raise InvalidChange for any object that is not a list or tuple of steps."""
    if not isinstance(steps, (list, tuple)):
        raise InvalidChange(-1)
    for k, step in enumerate(steps):
        if not is_step(tables, step):
            raise InvalidChange(k)


def right_for(rules, change):
    """Return the right that a change needs, None if no right is enough for it."""
    word, row = change
    rights = rules.get((row[0][0], row[1]))
    if rights is None:
        return None
    return rights[0] if word == "put" else rights[1]


class Writing:
    """A state that changes, and who may change it by rules [rules_of]."""

    def __init__(self, tables, rules, index):
        self.tables = tables
        self.rules = rules
        self.index = index
        self.askers = {}

    def alters(self, change):
        """Return whether a change changes something now."""
        return self.index.has(change[1]) != (change[0] == "put")

    def may(self, user, change):
        """Return whether a user may do a change now."""
        right = right_for(self.rules, change)
        return right is not None and self.alters(change) and self.has(change[1][0], right, user)

    def has(self, thing, relation, user):
        """Return whether a user has a right to a thing now."""
        if user not in self.askers:
            self.askers[user] = Asker(self.tables, self.index, user)
        return self.askers[user].has(thing, relation)

    def do(self, change):
        """Do a change, whoever may do it."""
        word, row = change
        if word == "put":
            self.index.put(row)
        else:
            self.index.take(row)
        self.askers.clear()
