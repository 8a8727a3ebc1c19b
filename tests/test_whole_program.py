"""What the document promises over the whole program: answers of different functions to the same question agree."""

import random
import unittest

from relatedrights.alike import alike, rights_changed, rows_lost
from relatedrights.changes import effects, least_change, switched
from relatedrights.errors import TooLarge
from relatedrights.expansions import compared, is_in, listed, pruned, things, unfold
from relatedrights.histories import answers, came_and_went, snapshot, spans, watch
from relatedrights.live import Live
from relatedrights.merges import clean_orders, last_state, outcomes, rights_behind
from relatedrights.needless import agree, difference, needed_for, spare_rows, thinned
from relatedrights.papers import judge, paper_for, ways, weight
from relatedrights.profiles import always, never, profiles
from relatedrights.ranks import check_within, depth_needed, never_told, rank
from relatedrights.schemas import check_schema, depends_on, strata
from relatedrights.states import check, check_state, named_users, rights_of, who_has
from relatedrights.texts import journal_text, read_journal, read_rows, read_schema, rows_text, schema_text
from relatedrights.writers import behind, gains, may, may_write, refused_at, rounds_to, shows_way, way_to
from tests import slow
from tests.made import one_of_both, some_rules
from tests.slow_changes import different
from tests.slow_rounds import nodes_over

USERS = [("user", 0), ("user", 1), ("user", 50)]


def cases(seed, many, rows=12):
    chance = random.Random(seed)
    for _ in range(many):
        schema, made = one_of_both(chance)
        state = made(chance, schema, chance.randint(2, rows), 2)
        if slow.things_in(schema, state):
            yield chance, schema, state, made


class OneStateTest(unittest.TestCase):
    def test_who_has_a_right(self):
        for chance, schema, state, _ in cases(151, 300):
            check_schema(schema)
            check_state(schema, state)
            user = chance.choice(USERS)
            had = rights_of(schema, state, user)
            told = never_told(schema, state, user)
            for thing, name in nodes_over(schema, slow.things_in(schema, state)):
                has = check(schema, state, thing, name, user)
                question = (schema, state, thing, name, user)
                users, kinds = who_has(schema, state, thing, name)
                self.assertEqual(has, (thing, name) in had)
                self.assertEqual(has, user in users or (user[0] in kinds and user not in named_users(schema, state)))
                self.assertEqual(has, is_in(unfold(schema, state, thing, name), user))
                tree = pruned(unfold(schema, state, thing, name))
                self.assertEqual(has, tree is not None and is_in(tree, user))
                self.assertEqual(has, self.is_listed(listed(schema, state, thing, name), user))
                self.assertEqual(has, thing in things(schema, state, user, thing[0], name))
                self.assertEqual(has, rank(*question) is not None)
                self.assertEqual(has, weight(*question) is not None)
                self.assertEqual(has, ways(*question, rank(*question) or 3) > 0)
                self.assertEqual(has, paper_for(*question)[-1][0] == "has")
                self.assertIsNone(judge(schema, state, user, paper_for(*question)))
                depth = depth_needed(*question)
                self.assertEqual(depth is None, (thing, name) in told)
                if depth is not None:
                    self.assertEqual(check_within(*question, depth), "yes" if has else "no")
                self.assertEqual(compared(schema, state, thing, name, thing, name), "same")

    def is_listed(self, entries, user):
        return ("one", user) in entries or any(entry[:2] == ("all", user[0]) and user not in entry[2] for entry in entries)

    def test_what_can_hold_in_any_state_holds_in_this_one(self):
        for chance, schema, state, _ in cases(152, 120):
            user = chance.choice(USERS)
            had = rights_of(schema, state, user)
            try:
                lost = never(schema, "user")
            except TooLarge:
                continue
            self.assertFalse([1 for thing, name in had if (thing[0], name) in lost])
            for thing in slow.things_in(schema, state):
                names = tuple(name for node, name in had if node == thing)
                self.assertIn(names, profiles(schema, "user", thing[0]))
                for given in names:
                    for wanted in [name for kind, name in slow.rights_in(schema) if kind == thing[0] and name not in names]:
                        self.assertIs(always(schema, "user", thing[0], given, wanted), False)

    def test_levels_and_what_they_depend_on(self):
        for _, schema, _, _ in cases(153, 100):
            levels = {right: k for k, rights in enumerate(strata(schema)) for right in rights}
            self.assertEqual(sorted(levels), sorted(slow.rights_in(schema)))
            for kind, name in levels:
                self.assertTrue(all(levels[right] <= levels[kind, name] for right in depends_on(schema, kind, name)))


class TwoStatesTest(unittest.TestCase):
    def test_what_changes_between_them(self):
        for chance, schema, state, made in cases(154, 300):
            switches = chance.sample(different(made(chance, schema, 6, 2) + state), 1)
            other = switched(schema, state, switches, (0,))
            concerns = slow.rights_in(schema)[:36]
            changed = effects(schema, state, switches, (0,), concerns)
            self.assertIs(agree(schema, state, other, concerns), not changed)
            self.assertEqual(difference(schema, state, other, concerns) is None, not changed)
            for user in USERS:
                came, went = came_and_went(schema, state, [[("put" if switches[0] in other else "take", switches[0])]], 0, 1, user)
                if user in named_users(schema, state + switches):
                    mine = [(thing, name, word) for thing, name, who, word in changed if who == user]
                else:
                    mine = [(thing, name, word) for thing, name, who, word in changed if who == user[0]]
                self.assertEqual(sorted(mine), sorted([node + ("gained",) for node in came] + [node + ("lost",) for node in went]))
                for thing, name in came:
                    wish = [(thing, name, user, True)]
                    self.assertEqual(least_change(schema, state, switches, wish), (0,))
            if switches[0] in state:
                self.assertEqual(needed_for(schema, state, concerns, switches[0]) is None, not changed)
                self.assertEqual(switches[0] in spare_rows(schema, state, concerns), not changed)
            self.assertTrue(agree(schema, state, thinned(schema, state, concerns), concerns))

    def test_the_same_schema_in_another_coat(self):
        for _, schema, state, _ in cases(155, 100):
            again = read_schema(schema_text(schema))
            self.assertEqual(again, schema)
            self.assertEqual(read_rows(schema, rows_text(schema, state)), state)
            self.assertEqual((rows_lost(schema, again, state), rights_changed(schema, again, state)), ([], ([], [])))
            try:
                self.assertIs(alike(schema, again), True)
            except TooLarge:
                pass


class WritingTest(unittest.TestCase):
    def test_stores_histories_and_steps(self):
        done = 0
        for chance, schema, state, made in cases(156, 300):
            liked = sorted({(thing[0], name) for thing, name, _ in slow.all_had(schema, state, USERS)})
            rules = some_rules(chance, schema, liked)
            live = Live(schema, rules)
            for row in different(state):
                self.assertIs(live.do(None, ("put", row)), True)
            first = live.latest()
            self.assertEqual(live.content(), sorted(set(state)))
            pool = different(made(chance, schema, 6, 2) + state)
            steps = []
            for _ in range(8):
                user, row = chance.choice(USERS), chance.choice(pool)
                change = ("take" if row in live.content() else "put", row)
                fine = may(schema, rules, live.content(), user, change)
                puts, takes = may_write(schema, rules, live.content(), user, row[0])
                self.assertEqual(fine, row[1] in (puts if change[0] == "put" else takes))
                self.assertIs(live.do(user, change), fine)
                steps.append((user, change))
                done += fine
            self.agree(chance, schema, rules, state, live, first, steps)
        self.assertGreater(done, 150)

    def agree(self, chance, schema, rules, state, live, first, steps):
        log = live.since(first)
        history = [[change] for _, _, change in log]
        self.assertEqual(behind(schema, rules, state, steps), live.content())
        self.assertEqual(refused_at(schema, rules, state, steps) is None, len(log) == len(steps))
        self.assertEqual(snapshot(schema, state, history, len(log)), live.content())
        self.assertEqual(watch(schema, state, history, 0, [kind for kind, entries in schema if entries]),
                         [(k + 1, (change,)) for k, (_, _, change) in enumerate(log)])
        offers = [(user, change, (), ()) for _, user, change in log]
        self.assertEqual(clean_orders(schema, rules, state, offers, []), (1, 1))
        self.assertEqual(last_state(schema, rules, state, [], offers), live.content())
        if len(offers) <= 6:
            self.assertEqual(outcomes(schema, rules, state, offers, []), [(tuple(live.content()), 1)])
        self.assertEqual(read_journal(schema, rules, journal_text(live)), live)
        self.assertEqual(live.fork(), live)
        for thing in slow.things_in(schema, live.content())[:2]:
            for name in [name for kind, name in slow.rights_in(schema) if kind == thing[0]]:
                user = chance.choice(USERS)
                truths = [check(schema, live.content(token), thing, name, user) for token in range(first, live.latest() + 1)]
                self.assertEqual([live.check(thing, name, user, first + k) for k in range(len(truths))], truths)
                self.assertEqual(answers(schema, state, history, 0, 0, thing, name, user), sorted(set(truths)))
                inside = [k for start, end in spans(schema, state, history, thing, name, user) for k in range(start, end + 1)]
                self.assertEqual(inside, [k for k, truth in enumerate(truths) if truth])
                told = live.answers(thing, name, user, first)
                self.assertEqual([token for token, _ in told], [first + k for k in range(len(truths))
                                                               if k == 0 or truths[k] != truths[k - 1]])
                if len(offers) <= 6:
                    self.assertEqual(rights_behind(schema, rules, state, [], offers, thing, name, user),
                                     (1, 0) if truths[-1] else (0, 1))

    def test_ways_ahead_of_writes_and_behind_them(self):
        for chance, schema, state, _ in cases(157, 100):
            if "'but'" in repr(schema):
                continue
            rules = some_rules(chance, schema, slow.rights_in(schema))
            company = USERS[:2]
            for user in USERS:
                for thing, name in gains(schema, rules, state, company, user)[:3]:
                    steps = way_to(schema, rules, state, company, thing, name, user)
                    self.assertTrue(shows_way(schema, rules, state, company, thing, name, user, steps))
                    rows = behind(schema, rules, state, steps)
                    self.assertTrue(check(schema, rows, thing, name, user))
                    self.assertEqual(rounds_to(schema, rules, rows, company, thing, name, user), 0)
                    # Behind the first step the way is as long as before at most.
                    once = behind(schema, rules, state, steps[:1])
                    self.assertLessEqual(rounds_to(schema, rules, once, company, thing, name, user),
                                         rounds_to(schema, rules, state, company, thing, name, user))


if __name__ == "__main__":
    unittest.main()
