"""Stage 9 on schemas made by chance, compared with the three rules, and with states."""

import itertools
import random
import unittest

from relatedrights.errors import TooLarge
from relatedrights.profiles import (
    always, can, is_sound, never, profile_of, profiles, soundest, state_for,
)
from relatedrights.states import check, rights_of
from tests import slow, slow_configurations
from tests.made import lively_schema, lively_state, some_schema, some_state


def names_of(schema, kind):
    return [name for far, name in slow.rights_in(schema) if far == kind]


def rights_had(schema, state, thing, user):
    return tuple(name for name in names_of(schema, thing[0]) if check(schema, state, thing, name, user))


class ProfilesByChanceTest(unittest.TestCase):
    def cases(self, seed, many, most=40):
        """Schemas and bare kinds with not too many configurations, {configuration: profile}, the greatest sound list."""
        chance = random.Random(seed)
        for _ in range(many):
            schema = lively_schema(chance) if chance.random() < 0.7 else some_schema(chance)
            bare = chance.choice([kind for kind, entries in schema if not entries])
            if len(slow_configurations.configurations_of(schema, bare)) <= most:
                found = slow_configurations.all_profiles(schema, bare)
                yield chance, schema, bare, found, slow_configurations.greatest(schema, bare, found)

    def test_the_greatest_sound_list(self):
        thrown = 0
        for chance, schema, bare, found, greatest in self.cases(91, 250, 60):
            self.assertEqual(soundest(schema, bare), sorted(greatest))
            for entry in found:
                self.assertEqual(profile_of(schema, bare, entry), found[entry])
            thrown += len(greatest) < len(found)
        self.assertGreater(thrown, 60)

    def test_sound_lists(self):
        words = {}
        for chance, schema, bare, found, greatest in self.cases(92, 250):
            for pool in (list(found), greatest, greatest):
                some = chance.sample(pool, chance.randint(0, len(pool)))
                sound = slow_configurations.is_sound(schema, bare, some, found)
                self.assertIs(is_sound(schema, bare, some), sound)
                self.assertIs(is_sound(schema, bare, tuple(some[::-1])), sound)
                words[sound, len(some) > 2] = words.get((sound, len(some) > 2), 0) + 1
        self.assertGreater(min(words.values()), 20)

    def test_profiles_and_the_states_that_show_them(self):
        shown = none = 0
        for chance, schema, bare, found, greatest in self.cases(93, 150):
            for kind in [kind for kind, entries in schema if entries]:
                names = names_of(schema, kind)
                fine = {found[entry] for entry in greatest if entry[0] == kind}
                self.assertEqual(profiles(schema, bare, kind), sorted(fine, key=lambda one: (len(one), one)))
                for size in range(len(names) + 1):
                    for profile in itertools.combinations(names, size):
                        told = state_for(schema, bare, kind, chance.sample(profile, size))
                        self.assertEqual(told is None, profile not in fine)
                        none += told is None
                        if told is not None:
                            state, thing, user = told
                            self.assertEqual((thing[0], user[0]), (kind, bare))
                            self.assertEqual(rights_had(schema, state, thing, user), profile)
                            shown += 1
                having = chance.sample(names, chance.randint(0, min(2, len(names))))
                lacking = chance.sample(names, chance.randint(0, min(2, len(names))))
                told = can(schema, bare, kind, having, lacking)
                fits = [one for one in fine if set(having) <= set(one) and not set(lacking) & set(one)]
                self.assertEqual(told is None, not fits)
                if told is not None:
                    self.assertIn(rights_had(schema, *told), fits)
                for given in names:
                    for wanted in names:
                        self.assertIs(always(schema, bare, kind, given, wanted),
                                      all(wanted in one for one in fine if given in one))
            self.assertEqual(never(schema, bare), [(kind, name) for kind, name in slow.rights_in(schema) if not any(
                entry[0] == kind and name in found[entry] for entry in greatest)])
        self.assertGreater(min(shown, none), 400)

    def test_all_states_have_these_profiles(self):
        seen = set()
        chance = random.Random(94)
        for _ in range(200):
            lively = chance.random() < 0.8
            schema = lively_schema(chance) if lively else some_schema(chance)
            for _ in range(3):
                state = (lively_state if lively else some_state)(chance, schema, chance.randint(3, 14), 3)
                for bare in [kind for kind, entries in schema if not entries]:
                    for user in ((bare, 0), (bare, 1), (bare, 77)):
                        had = rights_of(schema, state, user)
                        for thing in slow.things_in(schema, state):
                            profile = tuple(name for node, name in had if node == thing)
                            try:
                                self.assertIn(profile, profiles(schema, bare, thing[0]))
                            except TooLarge:
                                continue
                            seen.add(len(profile))
        self.assertLessEqual({0, 1, 2, 3}, seen)


if __name__ == "__main__":
    unittest.main()
