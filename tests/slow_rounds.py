"""Stages 3 and 4 of the document once more, as plainly and slowly as can be, to compare with."""

from tests.slow import all_had, is_link, rule_of


def subjects_at(state, thing, relation):
    return sorted(set(row[2] for row in state if row[:2] == (thing, relation)))


def parts_of(rule):
    return rule[1] if rule[0] in ("either", "both") else rule[1:]


def read_by(state, thing, relation, rule):
    """The rights to things that a part without parts reads."""
    if rule[0] == "direct":
        return [subject[1:] for subject in subjects_at(state, thing, relation) if subject[0] == "who"]
    if rule[0] == "same":
        return [(thing, rule[1])]
    return [(subject[1], rule[2]) for subject in subjects_at(state, thing, rule[1])]


def told_outright(state, thing, relation, rule, user):
    """How many different subjects of rows give a part without parts to the user."""
    if rule[0] != "direct":
        return 0
    return len([s for s in subjects_at(state, thing, relation) if s in (("one", user), ("all", user[0]))])


def value(schema, state, thing, relation, user, depth, memo):
    key = (thing, relation, depth)
    if depth == 0:
        return "deep"
    if key not in memo:
        memo[key] = rule_value(schema, state, thing, relation, rule_of(schema, thing[0], relation), user, depth, memo)
    return memo[key]


def rule_value(schema, state, thing, relation, rule, user, depth, memo):
    word = rule[0]
    if word in ("direct", "same", "through"):
        values = [value(schema, state, other, r, user, depth - 1, memo)
                  for other, r in read_by(state, thing, relation, rule)]
        if told_outright(state, thing, relation, rule, user):
            values.append("yes")
        return "yes" if "yes" in values else "deep" if "deep" in values else "no"
    values = [rule_value(schema, state, thing, relation, part, user, depth, memo) for part in parts_of(rule)]
    if word == "either":
        return "yes" if "yes" in values else "deep" if "deep" in values else "no"
    if word == "both":
        return "no" if "no" in values else "deep" if "deep" in values else "yes"
    if values[0] == "no" or values[1] == "yes":
        return "no"
    return "deep" if "deep" in values else "yes"


def calls(schema, state, thing, relation, depth, memo):
    key = (thing, relation, depth)
    if depth == 0:
        return 1
    if key not in memo:
        memo[key] = 1 + rule_calls(schema, state, thing, relation, rule_of(schema, thing[0], relation), depth, memo)
    return memo[key]


def rule_calls(schema, state, thing, relation, rule, depth, memo):
    if rule[0] in ("direct", "same", "through"):
        return sum(calls(schema, state, other, r, depth - 1, memo)
                   for other, r in read_by(state, thing, relation, rule))
    return sum(rule_calls(schema, state, thing, relation, part, depth, memo) for part in parts_of(rule))


def nodes_over(schema, things):
    return [(thing, name) for thing in things for name, rule in dict(schema)[thing[0]] if not is_link(rule)]


class Rounds:
    """Ranks, weights and ways of one user over some things, by rounds."""

    def __init__(self, schema, state, things, user):
        self.schema = schema
        self.state = state
        self.user = user
        self.nodes = nodes_over(schema, things)
        self.had = {(thing, name) for thing, name, _ in all_had(schema, state, [user])}

    def really(self, thing, name, rule):
        if rule[0] in ("direct", "same", "through"):
            return bool(told_outright(self.state, thing, name, rule, self.user)) or any(
                node in self.had for node in read_by(self.state, thing, name, rule))
        truths = [self.really(thing, name, part) for part in parts_of(rule)]
        if rule[0] == "but":
            return truths[0] and not truths[1]
        return any(truths) if rule[0] == "either" else all(truths)

    def number(self, thing, name, rule, before, leaf, either, both):
        """What a rule gives by the numbers `before`, None being none, by three functions."""
        if rule[0] in ("direct", "same", "through"):
            outright = told_outright(self.state, thing, name, rule, self.user)
            return leaf(rule[0], outright, [before.get(node) for node in read_by(self.state, thing, name, rule)])
        if rule[0] == "but":
            if self.really(thing, name, rule[2]):
                return None
            return self.number(thing, name, rule[1], before, leaf, either, both)
        found = [self.number(thing, name, part, before, leaf, either, both) for part in rule[1]]
        left = [number for number in found if number is not None]
        if rule[0] == "either":
            return either(left) if left else None
        return both(found) if len(left) == len(found) else None

    def round(self, before, leaf, either, both):
        found = {}
        for thing, name in self.nodes:
            number = self.number(thing, name, rule_of(self.schema, thing[0], name), before, leaf, either, both)
            if number is not None:
                found[(thing, name)] = number
        return found

    def ranks(self):
        def leaf(word, outright, read):
            return 1 if outright or any(read) else None

        found, held, number = {}, {}, 0
        while True:
            number += 1
            new = self.round(held, leaf, max, max)
            if new == held:
                return found
            found.update({node: number for node in new if node not in found})
            held = new

    def weights(self):
        def leaf(word, outright, read):
            numbers = [number + (word != "same") for number in read if number is not None] + [1] * bool(outright)
            return min(numbers) if numbers else None

        before = {}
        while True:
            new = self.round(before, leaf, min, sum)
            if new == before:
                return new
            before = new

    def ways(self, rounds):
        def leaf(word, outright, read):
            return outright + sum(number or 0 for number in read)

        def product(numbers):
            total = 1
            for number in numbers:
                total *= number
            return total

        found = {}
        for _ in range(rounds):
            found = self.round(found, leaf, sum, product)
        return {node: number for node, number in found.items() if number}


class Judge:
    """A second judge of papers."""

    def __init__(self, schema, state, user):
        self.schema = schema
        self.state = state
        self.user = user
        self.known = set()
        self.missing = set()

    def judge(self, paper):
        for k, step in enumerate(paper):
            try:
                if not self.step(step):
                    return k
            except (TypeError, ValueError, IndexError, KeyError):
                return k
        return None

    def step(self, step):
        if step[0] == "has":
            _, thing, relation, reason = step
            if not self.is_right(thing, relation) or not self.reason(thing, relation, rule_of(self.schema, thing[0], relation), reason):
                return False
            self.known.add((thing, relation))
            return True
        word, entries = step
        if word != "lacks" or not entries or not all([self.is_right(*entry[:2]) for entry in entries]):
            return False
        before = set(self.missing)
        self.missing |= {entry[:2] for entry in entries}
        fine = [self.want(thing, relation, rule_of(self.schema, thing[0], relation), want)
                for thing, relation, want in entries]
        if not all(fine):
            self.missing = before
        return all(fine)

    def is_right(self, thing, relation):
        kind, number = thing
        return type(number) is int and number >= 0 and not is_link(rule_of(self.schema, kind, relation))

    def reason(self, thing, relation, rule, reason):
        word = rule[0]
        if word == "direct":
            row, subject = reason
            if row != "row" or subject not in subjects_at(self.state, thing, relation):
                return False
            return subject in (("one", self.user), ("all", self.user[0])) or subject[1:] in self.known
        if word == "same":
            return reason == ("same",) and (thing, rule[1]) in self.known
        if word == "through":
            to, other = reason
            return to == "to" and ("one", other) in subjects_at(self.state, thing, rule[1]) and (
                (other, rule[2]) in self.known)
        if word == "either":
            part, k, inner = reason
            return part == "part" and k >= 0 and self.reason(thing, relation, rule[1][k], inner)
        if word == "both":
            parts, inner = reason
            return parts == "parts" and len(inner) == len(rule[1]) and all(
                [self.reason(thing, relation, *pair) for pair in zip(rule[1], inner)])
        but, inner, want = reason
        return but == "but" and self.reason(thing, relation, rule[1], inner) and self.want(
            thing, relation, rule[2], want)

    def want(self, thing, relation, rule, want):
        word = rule[0]
        if word in ("direct", "same", "through"):
            return want == ("none",) and not told_outright(self.state, thing, relation, rule, self.user) and all(
                [node in self.missing for node in read_by(self.state, thing, relation, rule)])
        if word == "either":
            parts, inner = want
            return parts == "parts" and len(inner) == len(rule[1]) and all(
                [self.want(thing, relation, *pair) for pair in zip(rule[1], inner)])
        if word == "both":
            part, k, inner = want
            return part == "part" and k >= 0 and self.want(thing, relation, rule[1][k], inner)
        first, inner = want
        if first == "first":
            return self.want(thing, relation, rule[1], inner)
        return first == "second" and self.reason(thing, relation, rule[2], inner)
