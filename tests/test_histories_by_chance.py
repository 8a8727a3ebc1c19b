"""Stage 6 on histories made by chance, compared with what `check` tells of each snapshot."""

import random
import unittest

from relatedrights.histories import (
    answers, came_and_went, closed_by, leaks, session, snapshot, spans, sure_from, watch,
)
from relatedrights.states import check, rights_of
from tests import slow
from tests.made import some_schema, some_state
from tests.slow_rounds import nodes_over
from tests.slow_trees import snapshots

USERS = (("user", 0), ("user", 1), ("bot", 2), ("bot", 50))


def some_history(chance, schema, state):
    """A history that puts and takes rows of a small stock, often such as are there or not there."""
    stock = some_state(chance, schema, 25, 2) + state[:10]
    history = []
    for _ in range(chance.randint(0, 9)):
        rows = dict.fromkeys(chance.sample(stock, chance.randint(0, min(5, len(stock)))))
        history.append([(chance.choice(["put", "take"]), row) for row in rows])
    return [tuple(write) if chance.random() < 0.5 else write for write in history]


class HistoriesByChanceTest(unittest.TestCase):
    def cases(self, seed, many):
        chance = random.Random(seed)
        for _ in range(many):
            schema = some_schema(chance)
            state = some_state(chance, schema, chance.randint(0, 25), 2)
            history = some_history(chance, schema, state)
            rows = [sorted(found) for found in snapshots(state, history)]
            things = slow.things_in(schema, [row for found in rows for row in found])
            if things:
                user = chance.choice(USERS)
                nodes = nodes_over(schema, things)
                had = [rights_of(schema, found, user) for found in rows]
                changing = [node for node in nodes if 0 < sum(node in rights for rights in had) < len(had)]
                yield chance, schema, state, history, rows, chance.choice(changing or nodes), user

    def test_snapshots_and_truths(self):
        changing = 0
        for chance, schema, state, history, rows, node, user in self.cases(61, 400):
            newest = len(history)
            truths = [check(schema, found, *node, user) for found in rows]
            changing += len(set(truths)) == 2
            for token in range(newest + 1):
                self.assertEqual(snapshot(schema, state, history, token), rows[token])
            found = spans(schema, state, history, *node, user)
            self.assertEqual([k for first, last in found for k in range(first, last + 1)],
                             [k for k, truth in enumerate(truths) if truth])
            self.assertTrue(all(one[1] + 1 < other[0] for one, other in zip(found, found[1:])))
            for kept in {0, newest, chance.randint(0, newest)}:
                told = [answers(schema, state, history, kept, token, *node, user) for token in range(newest + 1)]
                for token in range(newest + 1):
                    self.assertEqual(told[token], sorted(set(truths[max(kept, token):])))
                least = [token for token in range(newest + 1) if len(told[token]) == 1][0]
                self.assertEqual(sure_from(schema, state, history, kept, *node, user), (least, told[least][0]))
        self.assertGreater(changing, 50)

    def test_leaks(self):
        leaking = 0
        for chance, schema, state, history, rows, node, user in self.cases(62, 400):
            newest = len(history)
            truths = [check(schema, found, *node, user) for found in rows]
            for _ in range(6):
                kept, first = chance.randint(0, newest), chance.randint(0, newest)
                last = chance.randint(first, newest)
                fine = any(truths[first:last + 1])
                told = []
                for token in range(newest + 1):
                    told.append(leaks(schema, state, history, kept, token, first, last, *node, user))
                    expected = [k for k in range(max(kept, token), newest + 1) if truths[k] and not fine]
                    self.assertEqual(told[-1], expected)
                closed = [token for token in range(newest + 1) if not told[token]]
                found = closed_by(schema, state, history, kept, first, last, *node, user)
                self.assertEqual(found, closed[0] if closed else None)
                leaking += closed[:1] != [0]
                if not any(truths[first:]):
                    self.assertLessEqual(found, first)
        self.assertGreater(leaking, 50)

    def test_watch(self):
        for chance, schema, state, history, rows, node, user in self.cases(63, 300):
            kinds = [kind for kind, entries in schema if entries]
            for wanted in (kinds, kinds[:1], []):
                for token in range(len(history) + 1):
                    expected = []
                    for k in range(token, len(history)):
                        fine = tuple(change for change in history[k] if change[1][0][0] in wanted
                                     and (change[1] in rows[k]) != (change[0] == "put"))
                        expected += [(k + 1, fine)] * bool(fine)
                    found = watch(schema, state, history, token, wanted)
                    self.assertEqual(found, expected)
                    self.assertEqual(watch(schema, state, history, token, tuple(wanted)), expected)
                    if wanted == kinds:
                        again = snapshots(rows[token], [changes for _, changes in found])[-1]
                        self.assertEqual(sorted(again), rows[-1])

    def test_came_and_went(self):
        for chance, schema, state, history, rows, node, user in self.cases(64, 300):
            for _ in range(4):
                one, other = chance.randint(0, len(history)), chance.randint(0, len(history))
                first, second = rights_of(schema, rows[one], user), rights_of(schema, rows[other], user)
                expected = ([r for r in second if r not in first], [r for r in first if r not in second])
                self.assertEqual(came_and_went(schema, state, history, one, other, user), expected)

    def test_sessions(self):
        possible = impossible = 0
        for chance, schema, state, history, rows, node, user in self.cases(65, 500):
            newest = len(history)
            things = slow.things_in(schema, [row for found in rows for row in found])
            nodes = [node] + chance.sample(nodes_over(schema, things), 1)
            reads = []
            for number in sorted(chance.choices(range(newest + 1), k=chance.randint(0, 6))):
                (thing, name), reader = chance.choice(nodes), chance.choice([user, USERS[0]])
                # Mostly what a session can have read, but not always.
                answer = check(schema, rows[number], thing, name, reader) != (chance.random() < 0.1)
                reads.append((chance.randint(0, number), thing, name, reader, answer))
            kept = chance.randint(0, newest)
            expected = self.least_numbers(schema, rows, kept, reads)
            self.assertEqual(session(schema, state, history, kept, reads), expected)
            self.assertEqual(session(schema, state, history, kept, tuple(reads)), expected)
            possible += expected is not None and len(set(expected)) > 1
            impossible += expected is None
        self.assertGreater(possible, 30)
        self.assertGreater(impossible, 30)

    def least_numbers(self, schema, rows, kept, reads):
        """The least list of numbers, found by trying all of them."""
        found = [[]]
        for token, thing, name, user, answer in reads:
            found = [numbers + [k] for numbers in found for k in range(max([kept, token] + numbers), len(rows))
                     if check(schema, rows[k], thing, name, user) == answer]
            # Of those that end with the same number the least one is enough.
            found = list({numbers[-1]: numbers for numbers in sorted(found, reverse=True)}.values())
        return min(found, default=None)


if __name__ == "__main__":
    unittest.main()
