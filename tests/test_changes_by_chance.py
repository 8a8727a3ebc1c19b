"""Stages 7 and 8 on schemas and states made by chance, compared with the definitions of the document."""

import random
import unittest

from relatedrights.changes import (
    effects, judge_change, least_change, minimal_changes, quiet_change, switched, why_not,
)
from relatedrights.needless import (
    agree, count_sets, difference, greatest_sets, is_thin, needed_for, spare_rows, thinned,
)
from tests import slow, slow_changes
from tests.made import one_of_both

USERS = [("user", 0), ("user", 1), ("user", 2), ("user", 50)]


class NeedlessByChanceTest(unittest.TestCase):
    def cases(self, seed, many, rows=10):
        chance = random.Random(seed)
        for _ in range(many):
            schema, made = one_of_both(chance)
            state = made(chance, schema, chance.randint(1, rows), chance.randint(1, 2))
            state += state[:chance.randint(0, 2)]
            rights = slow.rights_in(schema)
            concerns = dict.fromkeys(chance.sample(rights, chance.randint(1, min(3, len(rights)))))
            had = sorted({(entry[0][0], entry[1]) for entry in slow.all_had(schema, state, USERS)})
            if had:
                concerns[chance.choice(had)] = None
            yield chance, schema, state, list(concerns), made

    def test_differences(self):
        words = {}
        for chance, schema, state, concerns, made in self.cases(71, 400):
            other = [row for row in state if chance.random() < 0.8] + made(chance, schema, chance.randint(0, 3), 2)
            expected = slow_changes.difference(schema, state, other, concerns)
            self.assertEqual(difference(schema, state, other, concerns), expected)
            self.assertIs(agree(schema, state, other, concerns), expected is None)
            self.assertIs(agree(schema, other, state, tuple(concerns)), expected is None)
            word = expected[3] if expected else None
            words[word] = words.get(word, 0) + 1
        self.assertGreater(min(words.values()), 30)

    def test_spare_rows(self):
        spare = needed = twice = 0
        for chance, schema, state, concerns, _ in self.cases(72, 200):
            rows = slow_changes.different(state)
            told = {row: slow_changes.difference(schema, state, slow_changes.without(state, [row]), concerns)
                    for row in rows}
            free = [row for row in rows if told[row] is None]
            self.assertEqual(spare_rows(schema, state, concerns), free)
            self.assertIs(is_thin(schema, state, concerns), not free)
            for row in rows:
                self.assertEqual(needed_for(schema, state, concerns, row), told[row])
            left = slow_changes.thinned(schema, state, concerns)
            self.assertEqual(thinned(schema, state, concerns), left)
            self.assertTrue(agree(schema, state, left, concerns))
            if "but" not in repr(schema):
                self.assertTrue(is_thin(schema, left, concerns))
            spare += len(free)
            needed += len(rows) - len(free)
            twice += len(rows) - len(left) < len(free)
        self.assertGreater(min(spare, needed), 250)
        self.assertGreater(twice, 0)

    def test_sets_that_can_go(self):
        shapes = set()
        for chance, schema, state, concerns, _ in self.cases(73, 150, 8):
            rows = chance.sample(slow_changes.different(state), min(4, len(set(state))))
            sets = slow_changes.sets_that_can_go(schema, state, concerns, rows)
            self.assertEqual(count_sets(schema, state, concerns, rows), len(sets))
            greatest = [some for some in sets if not any(set(some) < set(other) for other in sets)]
            greatest.sort(key=lambda some: (-len(some), some))
            self.assertEqual(greatest_sets(schema, state, concerns, rows), greatest)
            shapes.add(tuple(len(some) for some in greatest))
            if "but" not in repr(schema):
                self.assertTrue(all(part in sets for some in sets for part in slow_changes.subsets(len(rows))
                                    if set(part) < set(some)))
        self.assertGreater(len(shapes), 6)


class ChangesByChanceTest(unittest.TestCase):
    def cases(self, seed, many):
        chance = random.Random(seed)
        for _ in range(many):
            schema, made = one_of_both(chance)
            state = made(chance, schema, chance.randint(1, 9), chance.randint(1, 2))
            state += state[:1]
            pool = slow_changes.different(made(chance, schema, 8, chance.randint(1, 2)) + state)
            switches = chance.sample(pool, min(len(pool), chance.randint(0, 5)))
            rights = slow.rights_in(schema)
            nodes = [((kind, number), name) for kind, name in rights for number in (0, 1)]
            # Mostly what some change makes so, of what changes by it.
            change = [k for k in range(len(switches)) if chance.random() < 0.6]
            had = slow.all_had(schema, state, USERS)
            wanted = slow.all_had(schema, slow_changes.switched(state, switches, change), USERS)
            wishes = {}
            for _ in range(chance.randint(1, 3)):
                entry = chance.choice(nodes) + (chance.choice(USERS),)
                if had != wanted and chance.random() < 0.8:
                    entry = chance.choice(sorted(had ^ wanted))
                wishes[entry + ((entry in wanted) != (chance.random() < 0.2),)] = True
            concerns = chance.sample(rights, chance.randint(1, min(4, len(rights))))
            yield chance, schema, state, switches, list(wishes), concerns

    def test_changes_and_wishes(self):
        least, whys = {}, {}
        for chance, schema, state, switches, wishes, _ in self.cases(81, 300):
            wishing = slow_changes.Wishing(schema, state, switches, wishes)
            for change in chance.sample(sorted(wishing.made), min(3, len(wishing.made))):
                self.assertEqual(switched(schema, state, switches, change), wishing.made[change])
            self.assertEqual(least_change(schema, state, switches, wishes), wishing.least())
            self.assertEqual(minimal_changes(schema, state, switches, wishes), wishing.minimal())
            self.assertEqual(why_not(schema, state, switches, wishes), wishing.why_not())
            size = None if wishing.least() is None else len(wishing.least())
            least[size] = least.get(size, 0) + 1
            whys[len(wishing.why_not() or ())] = True
            if "but" not in repr(schema) and all(wish[3] for wish in wishes):
                put = [k for k, row in enumerate(switches) if row not in state]
                for change in minimal_changes(schema, state, switches, wishes):
                    self.assertLessEqual(set(change), set(put))
        self.assertGreater(min(least[size] for size in (None, 0, 1)), 20)
        self.assertGreater(least.get(2, 0), 3)
        self.assertEqual(sorted(whys)[:3], [0, 1, 2])

    def test_judged_changes(self):
        words = {}
        for chance, schema, state, switches, wishes, _ in self.cases(82, 120):
            wishing = slow_changes.Wishing(schema, state, switches, wishes)
            for told in [*wishing.made, None, [], (0, 0), (1, 0), (True,), (False,), (len(switches),), (-1,), "0", ((),)]:
                word = judge_change(schema, state, switches, wishes, told)
                self.assertEqual(word, wishing.judged(told), (told, switches))
                words[word] = words.get(word, 0) + 1
        self.assertEqual(sorted(words), ["form", "more", "none", "right", "unmet"])
        self.assertGreater(min(words.values()), 20)

    def test_effects(self):
        kinds = {}
        for chance, schema, state, switches, _, concerns in self.cases(83, 300):
            named = slow.users_in(schema, state + switches)
            for change in slow_changes.subsets(len(switches))[-3:]:
                other = slow_changes.switched(state, switches, change)
                found = effects(schema, state, switches, change, concerns)
                self.assertEqual(found, slow_changes.effects(schema, state, other, named, concerns))
                for _, _, who, word in found:
                    kinds[isinstance(who, str), word] = kinds.get((isinstance(who, str), word), 0) + 1
        self.assertEqual(len(kinds), 4)
        self.assertGreater(min(kinds.values()), 10)

    def test_quiet_changes(self):
        numbers = {}
        for chance, schema, state, switches, wishes, concerns in self.cases(84, 300):
            wishing = slow_changes.Wishing(schema, state, switches, wishes)
            found = quiet_change(schema, state, switches, wishes, concerns)
            self.assertEqual(found, wishing.quiet(concerns))
            if found:
                numbers[found[0] == wishing.least(), found[1] > 0] = True
        self.assertEqual(len(numbers), 4)


if __name__ == "__main__":
    unittest.main()
