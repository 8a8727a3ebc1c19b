"""Stage 2 on schemas and states made by chance, compared with the definitions of the document."""

import random
import unittest

from relatedrights.states import check, check_state, named_users, rights_of, who_has
from tests import slow
from tests.made import some_schema, some_state


class ByChanceTest(unittest.TestCase):
    def test_all_answers(self):
        chance = random.Random(21)
        positive = 0
        for _ in range(700):
            schema = some_schema(chance)
            state = some_state(chance, schema, chance.randint(0, 50), chance.randint(1, 4))
            positive += self.compare(schema, state)
        self.assertGreater(positive, 5000)

    def compare(self, schema, state):
        check_state(schema, state)
        named = slow.users_in(schema, state)
        users = named + [("user", 50), ("bot", 50)]
        had = slow.all_had(schema, state, users)
        self.assertEqual(named_users(schema, state), named)
        things = slow.things_in(schema, state)
        nodes = [(thing, name) for thing in things for kind, name in slow.rights_in(schema) if kind == thing[0]]
        for user in users:
            self.assertEqual(rights_of(schema, state, user), [node for node in nodes if node + (user,) in had])
        for thing, name in nodes:
            holders = [user for user in users if (thing, name, user) in had]
            kinds = sorted(user[0] for user in holders if user[1] == 50)
            expected = ([user for user in holders if user[1] != 50], kinds)
            self.assertEqual(who_has(schema, state, thing, name), expected)
            for user in users:
                self.assertIs(check(schema, state, thing, name, user), user in holders)
        return len(had)


if __name__ == "__main__":
    unittest.main()
