"""Stage 10 on schemas made by chance, compared with the definitions of the document."""

import random
import unittest

from relatedrights.alike import alike, parting, rights_changed, rows_lost, spare_parts, without_part
from relatedrights.errors import CircularBut, Mismatch, TooLarge
from relatedrights.states import check, check_row
from tests import slow, slow_changes
from tests.made import direct_forms, lively_schema, lively_state, some_schema, some_state
from tests.samples import at_path
from tests.slow_configurations import leaves_of

USERS = [("user", 0), ("user", 1), ("user", 2), ("bot", 0), ("bot", 50), ("user", 50)]


def other_rule(chance, rule):
    """A rule with the same direct part, in which something is dropped, doubled, or in another place."""
    word = rule[0]
    if word == "direct":
        return ("direct", tuple(chance.sample(rule[1], len(rule[1]))))
    if word in ("same", "through"):
        return chance.choice([rule, ("either", (rule, rule)), ("both", (rule, rule))])
    parts = list(rule[1:] if word == "but" else rule[1])
    at = chance.randrange(len(parts))
    what = chance.choice(["inside", "inside", "order", "word", "drop", "double"])
    if what == "inside" or word == "but":
        parts[at] = other_rule(chance, parts[at])
    elif what == "order":
        chance.shuffle(parts)
    elif what == "word":
        word = "both" if word == "either" else "either"
    elif what == "drop" and len(parts) > 2:
        del parts[at]
    elif what == "double" and len(parts) < 4 and not direct_forms(parts[at]):
        parts.append(parts[at])
    return ("but", parts[0], parts[1]) if word == "but" else (word, tuple(parts))


def other_schema(chance, schema):
    rows = []
    for kind, entries in schema:
        changed = []
        for name, rule in entries:
            other = other_rule(chance, rule) if rule[0] != "links" and chance.random() < 0.5 else rule
            fine = rule[0] == "links" or sorted(direct_forms(other)) == sorted(direct_forms(rule))
            changed.append((name, other if fine else rule))
        rows.append((kind, tuple(changed)))
    return tuple(rows)


class AlikeByChanceTest(unittest.TestCase):
    def test_alike_and_parting(self):
        chance = random.Random(101)
        answers = {}
        for _ in range(500):
            lively = chance.random() < 0.8
            schema = lively_schema(chance) if lively else some_schema(chance)
            other = other_schema(chance, schema)
            try:
                found = parting(schema, other)
            except (TooLarge, CircularBut):
                continue
            self.assertIs(alike(schema, other), found is None)
            self.assertIs(alike(other, schema), found is None)
            if found:
                state, thing, relation, user = found
                self.assertNotEqual(check(schema, state, thing, relation, user), check(other, state, thing, relation, user))
            else:
                for _ in range(12):
                    state = (lively_state if lively else some_state)(chance, schema, 12, chance.randint(1, 3))
                    users = [user for user in USERS if (user[0], ()) in schema]
                    self.assertEqual(slow.all_had(schema, state, users), slow.all_had(other, state, users))
            same = schema == other
            answers[same, found is None] = answers.get((same, found is None), 0) + 1
        self.assertNotIn((True, False), answers)
        self.assertGreater(min(answers[False, True], answers[False, False]), 50)

    def test_spare_parts(self):
        chance = random.Random(102)
        spare = left = 0
        for _ in range(200):
            schema = lively_schema(chance) if chance.random() < 0.5 else some_schema(chance)
            try:
                found = spare_parts(schema)
            except TooLarge:
                continue
            expected = []
            for kind, entries in schema:
                for name, rule in entries:
                    for path in [] if rule[0] == "links" else self.paths(rule):
                        if alike(schema, without_part(schema, kind, name, path)):
                            expected.append((kind, name, path))
                        left += 1
            self.assertEqual(found, expected)
            spare += len(found)
        self.assertGreater(spare, 100)
        self.assertGreater(left - spare, 100)

    def paths(self, rule, path=()):
        """The paths of the parts that can go, found by looking at each part on the way down."""
        word = rule[0]
        found = []
        if word in ("either", "both", "but"):
            at = (lambda k: (k + 1,)) if word == "but" else (lambda k: (1, k))
            for k in range(2 if word == "but" else len(rule[1])):
                part = at_path(rule, at(k))
                if (word != "but" or k == 1) and all(leaf[0] != "direct" for leaf in leaves_of(part)):
                    found.append(path + (k,))
                found.extend(self.paths(part, path + (k,)))
        return found


class AnotherSchemaByChanceTest(unittest.TestCase):
    def test_rows_lost_and_rights_changed(self):
        chance = random.Random(103)
        come_in_all = gone_in_all = 0
        for _ in range(300):
            schema = lively_schema(chance) if chance.random() < 0.7 else some_schema(chance)
            other = lively_schema(chance) if chance.random() < 0.7 else some_schema(chance)
            if chance.random() < 0.3:
                # A kind of users changes places with one of things.
                swap = {"user": "doc", "doc": "user"}
                other = tuple((swap.get(kind, kind), entries) for kind, entries in schema)
            state = lively_state(chance, schema, chance.randint(1, 14), 2)
            try:
                lost = rows_lost(schema, other, state)
            except ValueError:
                continue
            self.assertEqual(lost, [k for k, row in enumerate(state) if not self.is_row(other, row)])
            come, gone = rights_changed(schema, other, state)
            self.assertEqual((come, gone), self.expected(schema, other, state, lost))
            come_in_all += len(come)
            gone_in_all += len(gone)
        self.assertGreater(min(come_in_all, gone_in_all), 40)

    def is_row(self, schema, row):
        try:
            check_row(schema, row)
        except Mismatch:
            return False
        return True

    def expected(self, schema, other, state, lost):
        left = [row for k, row in enumerate(state) if k not in lost]
        kinds = slow_changes.bare_kinds(schema)
        asked = [(user, user) for user in slow.users_in(schema, state)] + [(kind, (kind, 10 ** 6)) for kind in kinds]
        known = slow_changes.bare_kinds(other)
        before = slow.all_had(schema, state, [user for _, user in asked])
        behind = slow.all_had(other, left, [user for _, user in asked if user[0] in known])
        come, gone = [], []
        rights = set(slow.rights_in(schema) + slow.rights_in(other))
        for thing in slow.things_in(schema, state):
            for name in sorted(name for kind, name in rights if kind == thing[0]):
                for who, user in asked:
                    had, has = (thing, name, user) in before, (thing, name, user) in behind
                    if had != has:
                        (come if has else gone).append((thing, name, who))
        return (come, gone)


if __name__ == "__main__":
    unittest.main()
