"""Stages 11 and 12 on schemas, rules and states made by chance, compared with the definitions of the document."""

import random
import unittest

from relatedrights.errors import TooLarge
from relatedrights.merges import (
    clashes, clean_order, clean_orders, first_refusal, grid, last_state, outcomes, rights_behind,
)
from relatedrights.profiles import profiles
from relatedrights.states import check, rights_of
from relatedrights.writers import (
    behind, can_come, can_grow, fewest, gains, growing, keepers, may, may_write, refused_at, rounds_to, shows_way,
    way_to,
)
from tests import slow, slow_writers
from tests.made import lively_schema, lively_state, one_of_both, some_rules, some_schema, some_state, without_buts
from tests.slow_changes import different

USERS = [("user", 0), ("user", 1), ("user", 2), ("user", 50)]


def names_of(schema, kind):
    return [name for far, name in slow.rights_in(schema) if far == kind]


def some_change(chance, rows, pool):
    """Mostly a change that changes something."""
    row = chance.choice(pool)
    word = "take" if row in rows else "put"
    return (chance.choice(["put", "take"]) if chance.random() < 0.2 else word, row)


def cases(seed, many, rows=10, buts=True):
    """Schemas, rules, states, and rows that may be put and taken."""
    chance = random.Random(seed)
    for _ in range(many):
        if buts:
            schema, made = one_of_both(chance)
        elif chance.random() < 0.8:
            schema, made = lively_schema(chance, False), lively_state
        else:
            schema, made = without_buts(some_schema(chance)), some_state
        state = made(chance, schema, chance.randint(3, rows), chance.randint(1, 2))
        pool = different(made(chance, schema, 8, chance.randint(1, 2)) + state)
        if slow.things_in(schema, state):
            liked = sorted({(thing[0], name) for thing, name, _ in slow.all_had(schema, state, USERS)})
            yield chance, schema, some_rules(chance, schema, liked), state, pool


class WritersByChanceTest(unittest.TestCase):
    def test_steps(self):
        done = refused = 0
        for chance, schema, rules, state, pool in cases(111, 250):
            rows, steps, first = different(state), [], None
            for k in range(8):
                user = chance.choice(USERS)
                change = some_change(chance, rows, pool)
                fine = slow_writers.may(schema, rules, rows, user, change)
                self.assertIs(may(schema, rules, rows, user, change), fine)
                steps.append((user, change))
                if fine:
                    rows = slow_writers.changed(rows, change)
                elif first is None:
                    first = k
                done += fine
                refused += not fine
            self.assertEqual(behind(schema, rules, state, steps), sorted(rows))
            self.assertEqual(behind(schema, tuple(rules), tuple(state), tuple(steps)), sorted(rows))
            self.assertEqual(refused_at(schema, rules, state, steps), first)
        self.assertGreater(min(done, refused), 150)

    def test_what_users_may_write(self):
        found = 0
        for chance, schema, rules, state, _ in cases(112, 200):
            for thing in slow.things_in(schema, state):
                user = chance.choice(USERS)
                had = [name for node, name in rights_of(schema, state, user) if node == thing]
                mine = [rule for rule in rules if rule[0] == thing[0]]
                expected = (sorted(rule[1] for rule in mine if rule[2] in had), sorted(rule[1] for rule in mine if rule[3] in had))
                self.assertEqual(may_write(schema, rules, state, user, thing), expected)
                found += len(expected[0])
        self.assertGreater(found, 60)

    def test_what_can_come(self):
        numbers = {}
        for chance, schema, rules, state, _ in cases(113, 250, 10, False):
            company = chance.sample(USERS, chance.randint(0, 3))
            user = chance.choice(USERS)
            told = slow_writers.rounds(schema, rules, state, company, USERS)
            gained = []
            things = slow.things_in(schema, state)
            for thing in things + [(things[0][0], 10 ** 7)]:
                for name in names_of(schema, thing[0]):
                    arguments = (schema, rules, state, company, thing, name, user)
                    rounds = [k for k, had in enumerate(told) if (thing, name, user) in had]
                    number = rounds[0] if rounds else None
                    self.assertEqual(rounds_to(*arguments), number)
                    self.assertIs(can_come(*arguments), bool(rounds))
                    self.follows(way_to(*arguments), arguments, bool(rounds))
                    numbers[number] = numbers.get(number, 0) + 1
                    if number:
                        gained.append((thing, name))
            self.assertEqual(gains(schema, rules, state, company, user), sorted(gained))
        self.assertGreater(min(numbers[number] for number in (None, 0, 1, 2)), 10)

    def follows(self, steps, arguments, there_is_one):
        """That steps are a way, and that nothing less than all of them is shown as one."""
        schema, rules, state, company, thing, name, user = arguments
        if not there_is_one:
            self.assertIsNone(steps)
            return
        rows = different(state)
        for member, change in steps:
            self.assertIn(member, company)
            self.assertTrue(slow_writers.may(schema, rules, rows, member, change))
            rows = slow_writers.changed(rows, change)
        self.assertTrue(check(schema, rows, thing, name, user))
        self.assertIs(shows_way(*arguments, steps), True)
        self.assertIs(shows_way(*arguments, tuple(steps)), True)
        self.assertIs(shows_way(*arguments, steps + steps[:1]), not steps)
        self.assertIs(shows_way(*arguments, steps[:-1]), check(
            schema, behind(schema, rules, state, steps[:-1]), thing, name, user))

    def test_fewest_steps(self):
        numbers = {}
        for chance, schema, rules, state, pool in cases(114, 250):
            company = chance.sample(USERS, chance.randint(0, 3))
            rows = chance.sample(pool, min(len(pool), chance.randint(0, 5)))
            nodes = [(thing, name) for thing in slow.things_in(schema, state) for name in names_of(schema, thing[0])]
            if not nodes:
                continue
            had = slow.all_had(schema, state, USERS)
            come = slow.all_had(schema, different(state + rows), USERS) - had
            *node, user = chance.choice(sorted(come) or sorted(had) or [nodes[0] + (USERS[0],)])
            node = tuple(node)
            expected = slow_writers.fewest(schema, rules, state, company, rows, node, user)
            self.assertEqual(fewest(schema, rules, state, company, rows + rows[:1], *node, user), expected)
            number = None if expected is None else len(expected)
            numbers[number] = numbers.get(number, 0) + 1
        self.assertGreater(min(numbers.get(number, 0) for number in (None, 0, 1)), 5)

    def test_what_can_grow(self):
        lengths = {}
        for chance, schema, rules, _, _ in cases(115, 120, 4, False):
            bare = chance.choice([kind for kind, entries in schema if not entries])
            for kind in [kind for kind, entries in schema if entries]:
                names = names_of(schema, kind)
                try:
                    fine = profiles(schema, bare, kind)
                except TooLarge:
                    continue
                for name in names:
                    kept = keepers(schema, rules, kind, bare, name)
                    self.assertEqual(kept, sorted(one for one in fine if not can_grow(schema, rules, kind, bare, one, name)))
                    for profile in fine:
                        told = growing(schema, rules, kind, bare, chance.sample(profile, len(profile)), name)
                        self.assertEqual(told is None, profile in kept)
                        if told is not None:
                            self.grows(schema, rules, kind, bare, profile, name, told)
                            lengths[len(told[3])] = lengths.get(len(told[3]), 0) + 1
                self.assertIs(can_grow(schema, rules, kind, bare, names, names[0]) if names and tuple(names) not in fine
                              else False, False)
        self.assertGreater(min(lengths[number] for number in (0, 1, 2)), 20)

    def grows(self, schema, rules, kind, bare, profile, name, told):
        state, user, thing, steps = told
        self.assertEqual((type(state), thing[0], user[0], type(steps)), (list, kind, bare, list))
        self.assertEqual(tuple(right for right in names_of(schema, kind) if check(schema, state, thing, right, user)), profile)
        self.assertTrue(shows_way(schema, rules, state, [user], thing, name, user, steps))

    def test_whoever_gains_can_grow(self):
        grown = 0
        for chance, schema, rules, state, _ in cases(116, 250, 12, False):
            for user in USERS[:2]:
                had = rights_of(schema, state, user)
                more = gains(schema, rules, state, [user], user)
                for thing in slow.things_in(schema, state):
                    profile = [name for node, name in had if node == thing]
                    for node, name in had + more:
                        try:
                            if node == thing:
                                self.assertIs(can_grow(schema, rules, thing[0], "user", profile, name), True)
                        except TooLarge:
                            pass
                grown += len(more)
        self.assertGreater(grown, 60)


class MergesByChanceTest(unittest.TestCase):
    def offers(self, chance, schema, rules, state, pool, most):
        """Offers of which many can be done, one behind another."""
        rows, found = different(state), []
        for _ in range(chance.randint(0, most)):
            tried = [(chance.choice(USERS), some_change(chance, rows, pool)) for _ in range(15)]
            fine = [step for step in tried if slow_writers.may(schema, rules, rows, *step)]
            user, change = (fine or tried)[0]
            rows = slow_writers.changed(rows, change) if fine else rows
            there = [row for row in chance.sample(pool, min(2, len(pool))) if row in state and chance.random() < 0.4]
            absent = tuple(row for row in pool if row not in rows and chance.random() < 0.05)
            found.append((user, change, there, absent))
        return found

    def merges(self, seed, many, most=3):
        for chance, schema, rules, state, pool in cases(seed, many):
            one = self.offers(chance, schema, rules, state, pool, most)
            other = self.offers(chance, schema, rules, state, pool, most)
            yield chance, (schema, rules, state, one, other), slow_writers.Merging(schema, rules, state, one, other)

    def test_clean_orders(self):
        all_clean = some_clean = none_clean = 0
        for _, arguments, merging in self.merges(121, 400):
            self.assertEqual(clean_orders(*arguments), merging.clean_orders())
            self.assertEqual(grid(*arguments), merging.grid())
            self.assertEqual(clean_order(*arguments), merging.clean_order())
            self.assertEqual(first_refusal(*arguments), merging.first_refusal())
            self.assertEqual(last_state(*arguments), merging.last_state())
            many, clean = merging.clean_orders()
            all_clean += 1 < many == clean
            some_clean += 0 < clean < many
            none_clean += clean == 0
        self.assertGreater(min(all_clean, some_clean, none_clean), 10)

    def test_clashes(self):
        clashing = 0
        for _, arguments, merging in self.merges(122, 400):
            found = clashes(*arguments)
            self.assertEqual(found, merging.clashes())
            clashing += len(found) > 0
            schema, rules, state, one, other = arguments
            alone = [clean_orders(schema, rules, state, *lists)[1] for lists in ((one, []), ([], other))]
            many, clean = clean_orders(*arguments)
            self.assertIs(many == clean, alone == [1, 1] and not found)
        self.assertGreater(clashing, 30)

    def test_outcomes(self):
        several = 0
        for chance, arguments, merging in self.merges(123, 250):
            schema, rules, state, _, _ = arguments
            last = merging.last_states()
            expected = sorted((rows, last.count(rows)) for rows in set(last))
            self.assertEqual(outcomes(*arguments), expected)
            several += len(expected) > 1
            for thing in slow.things_in(schema, state)[:2]:
                for name in names_of(schema, thing[0]):
                    user = chance.choice(USERS)
                    fine = sum(check(schema, rows, thing, name, user) for rows in last)
                    self.assertEqual(rights_behind(*arguments, thing, name, user), (fine, len(last) - fine))
        self.assertGreater(several, 20)


if __name__ == "__main__":
    unittest.main()
