"""Stages 7 and 8 of the document once more, as plainly and slowly as can be, to compare with."""

import itertools

from tests.slow import all_had, things_in, users_in

FAR = 10 ** 6


def bare_kinds(schema):
    return sorted(kind for kind, entries in schema if not entries)


def least_unnamed(schema, *states):
    """The users that states name, and of each bare kind the least one that they do not name."""
    named = sorted({user for state in states for user in users_in(schema, state)})
    others = []
    for kind in bare_kinds(schema):
        number = 0
        while (kind, number) in named:
            number += 1
        others.append((kind, number))
    return named + others


def difference(schema, state, other, concerns):
    users = least_unnamed(schema, state, other)
    first, second = all_had(schema, state, users), all_had(schema, other, users)
    for kind, relation in concerns:
        found = sorted((thing, user) for thing, name, user in first ^ second if (thing[0], name) == (kind, relation))
        if found:
            thing, user = found[0]
            return (thing, relation, user, "lost" if (thing, relation, user) in first else "gained")
    return None


def without(state, rows):
    return [row for row in state if row not in rows]


def different(rows):
    return list(dict.fromkeys(rows))


def subsets(many):
    """All ascending tuples of places, those with fewer ones first, then in the order of tuples."""
    return [some for size in range(many + 1) for some in itertools.combinations(range(many), size)]


def sets_that_can_go(schema, state, concerns, rows):
    return [some for some in subsets(len(rows))
            if difference(schema, state, without(state, [rows[k] for k in some]), concerns) is None]


def thinned(schema, state, concerns):
    left = different(state)
    for row in different(state):
        if difference(schema, left, without(left, [row]), concerns) is None:
            left = without(left, [row])
    return left


def switched(state, switches, change):
    rows = [switches[k] for k in change]
    return without(different(state), rows) + [row for row in rows if row not in state]


def effects(schema, state, other, named, concerns):
    """What another state does to concerns, if these users count as named."""
    stand_ins = {kind: (kind, FAR) for kind in bare_kinds(schema)}
    asked = [(user, user) for user in sorted(named)] + sorted(stand_ins.items())
    first = all_had(schema, state, [user for _, user in asked])
    second = all_had(schema, other, [user for _, user in asked])
    things = sorted(set(things_in(schema, state) + things_in(schema, other)))
    found = []
    for kind, relation in concerns:
        for thing in things:
            for who, user in asked:
                entry = (thing, relation, user)
                if thing[0] == kind and (entry in first) != (entry in second):
                    found.append((thing, relation, who, "lost" if entry in first else "gained"))
    return found


class Wishing:
    """What the changes of some switches do to wishes."""

    def __init__(self, schema, state, switches, wishes):
        self.schema = schema
        self.state = state
        self.switches = switches
        self.wishes = wishes
        self.made = {change: switched(state, switches, change) for change in subsets(len(switches))}
        self.met = {}
        users = list({wish[2] for wish in wishes})
        for change, rows in self.made.items():
            had = all_had(schema, rows, users)
            self.met[change] = [(wish[:3] in had) == wish[3] for wish in wishes]
        self.fine = [change for change in self.made if all(self.met[change])]

    def least(self):
        return self.fine[0] if self.fine else None

    def minimal(self):
        return [change for change in self.fine if not any(set(other) < set(change) for other in self.fine)]

    def why_not(self):
        for some in subsets(len(self.wishes))[1:]:
            if not any(all(met[k] for k in some) for met in self.met.values()):
                return some
        return None

    def quiet(self, concerns):
        named = set(users_in(self.schema, self.state + self.switches)) | {wish[2] for wish in self.wishes}
        left_out = [wish[:3] for wish in self.wishes]
        best = None
        for change in self.fine:
            told = effects(self.schema, self.state, self.made[change], named, concerns)
            number = len([effect for effect in told if effect[:3] not in left_out])
            if best is None or number < best[1]:
                best = (change, number)
        return best

    def judged(self, told):
        if told is not None and not any(type(told) is tuple and told == change and all(
                type(k) is int for k in told) for change in self.made):
            return "form"
        if told is None:
            return "none" if self.fine else "right"
        if told not in self.fine:
            return "unmet"
        return "right" if told == self.fine[0] else "more"
