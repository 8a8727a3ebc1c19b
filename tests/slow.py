"""The definitions of the document once more, as plainly and slowly as can be, to compare with."""


def is_link(rule):
    return rule[0] == "links"


def rights_in(schema):
    return [(kind, name) for kind, entries in schema for name, rule in entries if not is_link(rule)]


def rule_of(schema, kind, name):
    return dict(dict(schema)[kind])[name]


def steps_of(schema, kind, rule, taken=False):
    """The rights that a rule names, each with whether in the second part of a but."""
    word = rule[0]
    if word == "direct":
        return [((form[1], form[2]), taken) for form in rule[1] if form[0] == "who"]
    if word == "same":
        return [((kind, rule[1]), taken)]
    if word == "through":
        return [((far, rule[2]), taken) for far in rule_of(schema, kind, rule[1])[1]]
    if word == "but":
        return steps_of(schema, kind, rule[1], taken) + steps_of(schema, kind, rule[2], True)
    return [step for part in rule[1] for step in steps_of(schema, kind, part, taken)]


def ways_from(schema, right):
    """All tuples (right, taken) at which a way of one step or more from a right ends."""
    found = []
    waiting = [(right, False)]
    while waiting:
        (kind, name), before = waiting.pop()
        for other, taken in steps_of(schema, kind, rule_of(schema, kind, name)):
            end = (other, before or taken)
            if end not in found:
                found.append(end)
                waiting.append(end)
    return found


def first_circular(schema):
    for right in rights_in(schema):
        if (right, True) in ways_from(schema, right):
            return right
    return None


def depended_on(schema, right):
    ends = [end for end, _ in ways_from(schema, right)]
    return [other for other in rights_in(schema) if other in ends]


def level_of(schema, right, most):
    """The most steps of second parts of buts on any way from a right, counted up to a bound."""
    best = {(right, 0)}
    while True:
        more = set(best)
        for (kind, name), number in best:
            for other, taken in steps_of(schema, kind, rule_of(schema, kind, name)):
                more.add((other, min(most, number + taken)))
        if more == best:
            return max(number for _, number in best)
        best = more


def levels_of(schema):
    rights = rights_in(schema)
    return {right: level_of(schema, right, len(rights)) for right in rights}


def holds(schema, state, had, thing, name, rule, user):
    """Whether a rule of the right `name` of a thing holds, by the tuples (thing, right, user) in `had`."""
    word = rule[0]
    if word == "direct":
        for row in state:
            if row[:2] == (thing, name):
                subject = row[2]
                if subject in (("one", user), ("all", user[0])):
                    return True
                if subject[0] == "who" and (subject[1], subject[2], user) in had:
                    return True
        return False
    if word == "same":
        return (thing, rule[1], user) in had
    if word == "through":
        others = [row[2][1] for row in state if row[:2] == (thing, rule[1])]
        return any((other, rule[2], user) in had for other in others)
    parts = rule[1] if word in ("either", "both") else rule[1:]
    truths = [holds(schema, state, had, thing, name, part, user) for part in parts]
    if word == "either":
        return any(truths)
    if word == "both":
        return all(truths)
    return truths[0] and not truths[1]


def things_in(schema, state):
    found = [row[0] for row in state]
    for row in state:
        if row[2][0] == "who" or is_link(rule_of(schema, row[0][0], row[1])):
            found.append(row[2][1])
    return sorted(set(found))


def users_in(schema, state):
    bare = [kind for kind, entries in schema if not entries]
    return sorted(set(row[2][1] for row in state if row[2][0] == "one" and row[2][1][0] in bare))


def all_had(schema, state, users):
    """The set of all tuples (thing, right, user) that hold, found level by level."""
    levels = levels_of(schema)
    things = things_in(schema, state)
    had = set()
    for level in range(max(levels.values(), default=0) + 1):
        grown = True
        while grown:
            grown = False
            for kind, name in rights_in(schema):
                if levels[(kind, name)] != level:
                    continue
                rule = rule_of(schema, kind, name)
                for thing in things:
                    for user in users:
                        entry = (thing, name, user)
                        if thing[0] == kind and entry not in had:
                            if holds(schema, state, had, thing, name, rule, user):
                                had.add(entry)
                                grown = True
    return had
