"""Stages 11 and 12 of the document once more, as plainly and slowly as can be, to compare with."""

from tests.made import direct_forms
from tests.slow import all_had, is_link, rule_of, things_in

FAR = 10 ** 9


def may(schema, rules, rows, user, change):
    """Whether a user may do a change in a state, given by its different rows."""
    word, row = change
    if (row in rows) == (word == "put"):
        return False
    for kind, relation, put, take in rules:
        if (kind, relation) == (row[0][0], row[1]):
            right = put if word == "put" else take
            return right is not None and (row[0], right, user) in all_had(schema, list(rows), [user])
    return False


def changed(rows, change):
    """A list of different rows behind a change."""
    return rows + [change[1]] if change[0] == "put" else [row for row in rows if row != change[1]]


def subjects_of(schema, kind, relation, things, users):
    """All subjects of a relation over some things and users."""
    rule = rule_of(schema, kind, relation)
    if is_link(rule):
        return [("one", thing) for thing in things if thing[0] in rule[1]]
    found = []
    for form in direct_forms(rule):
        if form[0] == "one":
            found += [("one", user) for user in users if user[0] == form[1]]
        elif form[0] == "all":
            found.append(form)
        else:
            found += [("who", thing, form[2]) for thing in things if thing[0] == form[1]]
    return found


def rounds(schema, rules, state, company, users):
    """What some users have behind 0, 1, 2 .. rounds, in each of which all puts are done; the last one twice."""
    kinds = [kind for kind, entries in schema if entries]
    # A thing of each kind that no row names yet may be told, too.
    things = things_in(schema, state) + [(kind, FAR) for kind in kinds]
    rows = set(state)
    found = [all_had(schema, list(rows), users)]
    while True:
        for kind, relation, put, _ in rules:
            for thing in things:
                if thing[0] == kind and any((thing, put, member) in found[-1] for member in company):
                    rows |= {(thing, relation, subject) for subject in subjects_of(schema, kind, relation, things, users)}
        found.append(all_had(schema, list(rows), users))
        if found[-1] == found[-2]:
            return found


def fewest(schema, rules, state, company, rows, node, user):
    """The least of the shortest lists of steps, by all states that can be come to."""
    layer = {frozenset(state): []}
    seen = set(layer)
    while layer:
        done = [steps for known, steps in layer.items() if node + (user,) in all_had(schema, list(known), [user])]
        if done:
            return min(done)
        further = {}
        for known, steps in layer.items():
            for member in company:
                for change in [(word, row) for row in rows for word in ("put", "take")]:
                    if may(schema, rules, known, member, change):
                        other = frozenset(changed(list(known), change))
                        longer = steps + [(member, change)]
                        if other not in seen and (other not in further or longer < further[other]):
                            further[other] = longer
        seen |= set(further)
        layer = further
    return None


def orders(first, second):
    """All orders of two lists of so many offers, ascending."""
    if not first and not second:
        return [()]
    found = [(0,) + order for order in orders(first - 1, second)] if first else []
    return found + ([(1,) + order for order in orders(first, second - 1)] if second else [])


class Merging:
    """Two lists of offers, by all beginnings."""

    def __init__(self, schema, rules, state, one, other):
        self.schema = schema
        self.rules = rules
        self.lists = (one, other)
        self.orders = orders(len(one), len(other))
        self.beginnings = sorted({order[:k] for order in self.orders for k in range(len(order) + 1)})
        self.clean = {(): list(dict.fromkeys(state))}
        for beginning in self.beginnings[1:]:
            rows = self.clean.get(beginning[:-1])
            if rows is not None:
                offer = self.offer(beginning)
                if self.can_do(rows, offer):
                    self.clean[beginning] = changed(rows, offer[1])

    def offer(self, beginning):
        """The offer that a beginning takes last."""
        return self.lists[beginning[-1]][beginning.count(beginning[-1]) - 1]

    def can_do(self, rows, offer):
        user, change, there, absent = offer
        return may(self.schema, self.rules, rows, user, change) and all(row in rows for row in there) and not any(
            row in rows for row in absent)

    def clean_orders(self):
        return (len(self.orders), len([order for order in self.orders if order in self.clean]))

    def grid(self):
        found = [[0] * (len(self.lists[1]) + 1) for _ in range(len(self.lists[0]) + 1)]
        for beginning in self.clean:
            found[beginning.count(0)][beginning.count(1)] += 1
        return found

    def clean_order(self):
        return min([order for order in self.orders if order in self.clean], default=None)

    def first_refusal(self):
        wrong = [beginning for beginning in self.beginnings if beginning not in self.clean]
        return min(wrong, key=lambda beginning: (len(beginning), beginning), default=None)

    def last_state(self):
        order = self.clean_order()
        return None if order is None else sorted(self.clean[order])

    def clashes(self):
        found = set()
        for beginning in self.clean:
            if beginning + (0,) in self.clean and beginning + (1,) in self.clean:
                if beginning + (0, 1) not in self.clean or beginning + (1, 0) not in self.clean:
                    found.add((beginning.count(0), beginning.count(1)))
        return sorted(found)

    def last_states(self):
        """The state behind each order, where an offer that cannot be done changes nothing."""
        found = []
        for order in self.orders:
            rows = self.clean[()]
            for k in range(len(order)):
                offer = self.offer(order[:k + 1])
                if self.can_do(rows, offer):
                    rows = changed(rows, offer[1])
            found.append(tuple(sorted(rows)))
        return found
