"""[13.3] Live and its methods."""

import copy
import random
import unittest

from relatedrights.live import Live
from relatedrights.states import check
from relatedrights.texts import journal_text, read_journal
from relatedrights.writers import may
from tests import slow
from tests.made import one_of_both, some_rules
from tests.samples import ANY, GREAT, ONE, deep_list, deep_tuple, odd_values, told

SCHEMA = (("user", ()), ("bot", ()), ("doc", (("own", ANY), ("up", ("links", ("doc",))), ("ban", ONE), ("see", (
    "but", ("either", (ANY, ("same", "own"), ("through", "up", "see"))), ("same", "ban"))))))
RULES = [("doc", "see", "own", "own"), ("doc", "own", "own", None), ("doc", "ban", None, "see")]
ANN, BOB, CID = ("user", 1), ("user", 2), ("user", 3)
DOC, FAR = ("doc", 7), ("doc", 8)


def row(user, relation="own", thing=DOC):
    return (thing, relation, ("one", user))


OWN, SEE, BAN = row(ANN), row(BOB, "see"), row(BOB, "ban")


def filled(rules=tuple(RULES)):
    """A store with six changes."""
    live = Live(SCHEMA, rules)
    for user, change in ((None, ("put", OWN)), (ANN, ("put", SEE)), (None, ("put", BAN)), (None, ("take", BAN)), (ANN, ("take", SEE)),
                         (None, ("put", (FAR, "up", ("one", DOC))))):
        assert live.do(user, change)
    return live


class ExampleTest(unittest.TestCase):
    def test_the_example_of_the_document(self):
        schema = (("user", ()), ("doc", (("own", ("direct", (("one", "user"),))), ("see", ("direct", (("one", "user"),))))))
        rules, ann, bob = [("doc", "see", "own", None)], ("user", 1), ("user", 2)
        live = Live(schema, rules)
        told_of = [live.do(None, ("put", (("doc", 7), "own", ("one", ann)))),
                   live.do(ann, ("put", (("doc", 7), "see", ("one", bob)))),
                   live.do(bob, ("take", (("doc", 7), "see", ("one", bob))))]
        self.assertEqual([told_of, live.answers(("doc", 7), "see", bob, 0), journal_text(live)], [
            [True, True, False], [(0, False), (2, True)], "- put doc 7 own user 1\nuser 1 put doc 7 see user 2\n"])
        self.assertEqual(read_journal(schema, rules, journal_text(live)), live)


class DoTest(unittest.TestCase):
    def test_the_keeper(self):
        live = Live(SCHEMA)
        self.assertIs(live.do(None, ("take", OWN)), False)
        self.assertIs(live.do(None, ("put", OWN)), True)
        self.assertIs(live.do(None, ("put", OWN)), False)
        self.assertIs(live.do(ANN, ("take", OWN)), False)
        self.assertIs(live.do(None, ("take", OWN)), True)
        self.assertEqual((live.latest(), live.content()), (2, []))

    def test_users(self):
        live = Live(SCHEMA, RULES)
        self.assertIs(live.do(ANN, ("put", SEE)), False)
        live.do(None, ("put", OWN))
        self.assertIs(live.do(BOB, ("put", SEE)), False)
        self.assertIs(live.do(ANN, ("put", OWN)), False)
        self.assertIs(live.do(ANN, ("put", row(BOB))), True)
        self.assertIs(live.do(BOB, ("put", SEE)), True)
        self.assertIs(live.do(BOB, ("take", SEE)), True)
        self.assertIs(live.do(BOB, ("take", SEE)), False)
        self.assertIs(live.do(BOB, ("take", OWN)), False)
        self.assertIs(live.do(BOB, ("put", BAN)), False)
        live.do(None, ("put", row(CID, "ban")))
        self.assertIs(live.do(CID, ("take", row(CID, "ban"))), False)
        self.assertIs(live.do(ANN, ("take", row(CID, "ban"))), True)
        self.assertEqual(live.latest(), 6)

    def test_wrong_arguments(self):
        live = filled()
        for user in odd_values() + [DOC, ("user", True), ("user", -1), ["user", 1], "user", deep_tuple()]:
            if user is not None:
                answer = told(live.do, user, 5)
                self.assertEqual(answer[0], "InvalidUser")
                self.assertIs(answer[1], user)
        for change in odd_values() + [("put",), ("put", OWN, 1), ["put", OWN], ("drop", OWN), ("put", row(DOC)), ("put", row(ANN, "none")),
                                      ("put", row(("user", True))), deep_list()]:
            self.assertEqual(told(live.do, None, change), ("InvalidChange", 0))
            self.assertEqual(told(live.do, ANN, change), ("InvalidChange", 0))
            self.assertEqual(told(live.do, ANN, ("put", change)), ("InvalidChange", 0))
        self.assertEqual(live, filled())

    def test_errors_of_the_schema_and_of_rules(self):
        self.assertEqual(told(Live, (5,)), ("InvalidSchema", (0,)))
        self.assertEqual(told(Live, (5,), 5), ("InvalidSchema", (0,)))
        self.assertEqual(told(Live, SCHEMA, 5), ("InvalidRules", -1))
        self.assertEqual(told(Live, SCHEMA, None), ("InvalidRules", -1))
        self.assertEqual(told(Live, SCHEMA, RULES + RULES[:1]), ("InvalidRules", 3))
        self.assertEqual(told(Live, schema=SCHEMA, rules=[5])[0], "InvalidRules")

    def test_arguments_are_copied(self):
        rules = list(RULES)
        live, other = Live(SCHEMA, rules), Live(SCHEMA, tuple(RULES))
        rules.clear()
        self.assertEqual(live, other)
        live.do(None, ("put", OWN))
        self.assertIs(live.do(ANN, ("put", SEE)), True)
        live.content().clear()
        live.since(0).clear()
        live.answers(DOC, "see", ANN, 0).clear()
        self.assertEqual(live.content(), [OWN, SEE])
        self.assertEqual(len(live.since(0)), 2)

    def test_more_than_2000_rows(self):
        live = Live(SCHEMA)
        for k in range(2100):
            live.do(None, ("put", row(("user", k))))
        self.assertEqual(len(live.content()), 2100)
        self.assertIs(live.check(DOC, "see", ("user", 2099)), True)
        self.assertEqual(live.answers(DOC, "see", ("user", 2050), 3), [(3, False), (2051, True)])


class SnapshotsTest(unittest.TestCase):
    def test_tokens_and_contents(self):
        live = filled()
        link = (FAR, "up", ("one", DOC))
        self.assertEqual((live.oldest(), live.latest()), (0, 6))
        self.assertEqual([live.content(token) for token in range(7)], [
            [], [OWN], [OWN, SEE], [BAN, OWN, SEE], [OWN, SEE], [OWN], [OWN, link]])
        self.assertEqual(live.content(), live.content(6))
        self.assertEqual(live.content(None), live.content(token=6))
        self.assertEqual((Live(SCHEMA).latest(), Live(SCHEMA).oldest(), Live(SCHEMA).content(0)), (0, 0, []))

    def test_answers(self):
        live = filled()
        self.assertEqual([live.check(DOC, "see", BOB, token) for token in range(7)], [False, False, True, False, True, False, False])
        self.assertIs(live.check(DOC, "see", BOB), False)
        self.assertIs(live.check(FAR, "see", ANN), True)
        self.assertIs(live.check(FAR, "see", ANN, None), True)
        self.assertIs(live.check(FAR, "see", user=ANN, token=5), False)
        self.assertEqual(live.answers(DOC, "see", BOB, 0), [(0, False), (2, True), (3, False), (4, True), (5, False)])
        self.assertEqual(live.answers(DOC, "see", BOB, 2), [(2, True), (3, False), (4, True), (5, False)])
        self.assertEqual(live.answers(DOC, "see", BOB, 6), [(6, False)])
        self.assertEqual(live.answers(DOC, "own", ("user", 99), 1), [(1, False)])
        self.assertEqual(live.answers(thing=FAR, relation="see", user=ANN, token=5), [(5, False), (6, True)])
        self.assertEqual(live.answers(("doc", 99), "see", ANN, 0), [(0, False)])

    def test_since(self):
        live = filled()
        self.assertEqual(live.since(6), [])
        self.assertEqual(live.since(3), [(4, None, ("take", BAN)), (5, ANN, ("take", SEE)), (6, None, ("put", (FAR, "up", ("one", DOC))))])
        self.assertEqual(live.since(0)[:2], [(1, None, ("put", OWN)), (2, ANN, ("put", SEE))])

    def test_wrong_tokens(self):
        live = filled()
        for token in odd_values() + [-1, 7, 10 ** 20, -GREAT, GREAT, "0", (0,), [0], b"0"]:
            if token is not None:
                answer = told(live.content, token)
                self.assertEqual(answer[0], "InvalidToken")
                self.assertIs(answer[1], token)
                self.assertEqual(told(live.check, DOC, "see", ANN, token)[0], "InvalidToken")
            for function in (live.since, live.forget):
                self.assertIs(told(function, token)[1], token)
                self.assertEqual(told(function, token)[0], "InvalidToken")
            self.assertEqual(told(live.answers, DOC, "see", ANN, token)[0], "InvalidToken")
        self.assertEqual(live, filled())

    def test_the_first_wrong_argument(self):
        live = filled()
        for function in (live.check, live.answers):
            self.assertEqual(told(function, ANN, "none", DOC, 99), ("InvalidObject", ANN))
            self.assertEqual(told(function, DOC, "up", DOC, 99), ("InvalidRelation", "up"))
            self.assertEqual(told(function, DOC, "see", DOC, 99), ("InvalidUser", DOC))
            self.assertEqual(told(function, DOC, "see", None, 99), ("InvalidUser", None))
            self.assertEqual(told(function, DOC, "see", ANN, 99), ("InvalidToken", 99))


class ForgetTest(unittest.TestCase):
    def test_what_is_lost_and_what_is_left(self):
        live, whole = filled(), filled()
        self.assertIsNone(live.forget(3))
        self.assertEqual((live.oldest(), live.latest()), (3, 6))
        for token in range(3, 7):
            self.assertEqual(live.content(token), whole.content(token))
            self.assertEqual(live.since(token), whole.since(token))
            self.assertEqual(live.answers(DOC, "see", BOB, token), whole.answers(DOC, "see", BOB, token))
        for token in (0, 2, 7):
            for function in (live.content, live.since, live.forget):
                self.assertEqual(told(function, token), ("InvalidToken", token))
            self.assertEqual(told(live.check, DOC, "see", ANN, token), ("InvalidToken", token))
            self.assertEqual(told(live.answers, DOC, "see", ANN, token), ("InvalidToken", token))
        self.assertIs(live.do(ANN, ("put", SEE)), True)
        self.assertEqual(live.since(6), [(7, ANN, ("put", SEE))])
        live.forget(3)
        live.forget(7)
        self.assertEqual((live.oldest(), live.latest(), live.since(7)), (7, 7, []))
        self.assertEqual(live.content(), sorted(whole.content() + [SEE]))
        self.assertIs(live.check(DOC, "see", BOB, 7), True)


class ForkTest(unittest.TestCase):
    def test_forks_go_on_apart(self):
        live = filled()
        other = live.fork()
        self.assertIsNot(other, live)
        self.assertIs(type(other), Live)
        self.assertEqual(other, live)
        self.assertIs(other.do(ANN, ("put", SEE)), True)
        self.assertNotEqual(other, live)
        self.assertEqual((live.latest(), other.latest()), (6, 7))
        self.assertIs(live.check(DOC, "see", BOB), False)
        self.assertIs(live.do(ANN, ("put", SEE)), True)
        self.assertEqual(other, live)
        live.forget(5)
        self.assertNotEqual(other, live)
        self.assertEqual(other.oldest(), 0)
        late = live.fork()
        self.assertEqual((late.oldest(), late), (5, live))
        other.forget(5)
        self.assertEqual(other, live)
        self.assertIs(late.do(None, ("put", SEE)), False)
        self.assertIs(late.do(ANN, ("take", SEE)), True)
        self.assertIs(live.check(DOC, "see", BOB), True)


class EqualityTest(unittest.TestCase):
    def stores(self, schema=SCHEMA, rules=tuple(RULES), rows=(OWN, SEE), forget=None):
        live = Live(schema, rules)
        for one in rows:
            live.do(None, ("put", one))
        if forget is not None:
            live.forget(forget)
        return live

    def test_each_of_the_things_that_count(self):
        base = self.stores()
        self.assertTrue(base == self.stores() and not base != self.stores())
        self.assertEqual(base, self.stores(rules=list(RULES)))
        other = SCHEMA[1::-1] + SCHEMA[2:]
        for different in (self.stores(schema=other), self.stores(rules=RULES[::-1]), self.stores(rules=RULES[:2]), self.stores(rules=()),
                          self.stores(rows=(SEE, OWN)), self.stores(rows=(OWN,)), self.stores(rows=(OWN, BAN)), self.stores(forget=1),
                          self.stores(forget=2), self.stores(rows=(OWN, SEE, BAN))):
            self.assertTrue(base != different and not base == different)
            self.assertTrue(different != base)
        self.assertEqual(self.stores(forget=0), base)

    def test_rows_of_the_oldest_snapshot_in_any_order(self):
        rows = [OWN, SEE, BAN, row(CID)]
        first, second = self.stores(rows=rows, forget=4), self.stores(rows=rows[::-1], forget=4)
        self.assertEqual(first, second)
        first.do(None, ("take", BAN))
        self.assertNotEqual(first, second)
        second.do(None, ("take", BAN))
        self.assertEqual(first, second)
        third = self.stores(rows=rows[:3] + [row(ANN, "see")], forget=4)
        self.assertNotEqual(second, third)

    def test_one_thing_alone_that_is_not_the_same(self):
        # The same rows and no changes, but another token; then the same tokens, but other rows.
        first = self.stores(rows=(OWN,))
        first.do(None, ("take", OWN))
        first.forget(2)
        self.assertEqual((first.content(), first.since(2)), ([], []))
        self.assertNotEqual(first, self.stores(rows=()))
        self.assertNotEqual(self.stores(rows=()), first)
        self.assertNotEqual(self.stores(rows=(OWN,), forget=1), self.stores(rows=(SEE,), forget=1))
        # Who has done a change is not one of the things that are told.
        one, other = self.stores(rows=(OWN,)), self.stores(rows=(OWN,))
        one.do(None, ("put", SEE))
        other.do(ANN, ("put", SEE))
        self.assertEqual(one, other)

    def test_changes_that_lead_to_the_same_rows(self):
        first, second = self.stores(), self.stores()
        for user, change in ((None, ("put", BAN)), (None, ("take", BAN))):
            first.do(user, change)
        for user, change in ((None, ("take", SEE)), (None, ("put", SEE))):
            second.do(user, change)
        self.assertEqual(first.content(), second.content())
        self.assertNotEqual(first, second)
        first.forget(4)
        second.forget(4)
        self.assertEqual(first, second)

    def test_other_objects(self):
        live = Live(SCHEMA)
        for odd in odd_values():
            if not isinstance(odd, Live):
                self.assertFalse(live == odd)
                self.assertTrue(live != odd)
        self.assertFalse(live == Live(SCHEMA, RULES))
        self.assertTrue(live == Live(SCHEMA, ()))
        self.assertTrue(live == copy.deepcopy(live))


class LiveByChanceTest(unittest.TestCase):
    def test_stores_against_lists_of_rows(self):
        chance = random.Random(141)
        done = refused = changing = 0
        for _ in range(150):
            schema, made = one_of_both(chance)
            pool = made(chance, schema, 12, 2)
            liked = sorted({(thing[0], name) for thing, name, _ in slow.all_had(schema, pool, [("user", 0), ("user", 1)])})
            rules = some_rules(chance, schema, liked)
            live, rows, log, snapshots = Live(schema, rules), [], [], [[]]
            for _ in range(30 if pool else 0):
                user = chance.choice([None, None, ("user", 0), ("user", 1)])
                one = chance.choice(pool)
                change = (chance.choice(["put", "take"]) if chance.random() < 0.2 else "take" if one in rows else "put", one)
                fine = (one in rows) != (change[0] == "put") if user is None else may(schema, rules, rows, user, change)
                self.assertIs(live.do(user, change), fine)
                done += fine
                refused += not fine
                if fine:
                    rows = rows + [one] if change[0] == "put" else [other for other in rows if other != one]
                    log.append((len(snapshots), user, change))
                    snapshots.append(rows)
            self.assertEqual(live.since(0), log)
            first = chance.randrange(len(snapshots))
            if chance.random() < 0.5:
                live.forget(first)
            else:
                first = 0
            for token in range(first, len(snapshots)):
                self.assertEqual(live.content(token), sorted(snapshots[token]))
            for thing in slow.things_in(schema, pool):
                for name in [name for kind, name in slow.rights_in(schema) if kind == thing[0]]:
                    user = chance.choice([("user", 0), ("user", 1), ("user", 50)])
                    truths = [check(schema, found, thing, name, user) for found in snapshots]
                    told_of = [(k, truths[k]) for k in range(first, len(truths)) if k == first or truths[k] != truths[k - 1]]
                    self.assertEqual(live.answers(thing, name, user, first), told_of)
                    token = chance.randrange(first, len(truths))
                    self.assertIs(live.check(thing, name, user, token), truths[token])
                    changing += len(told_of) > 2
        self.assertGreater(min(done, refused), 800)
        self.assertGreater(changing, 60)


if __name__ == "__main__":
    unittest.main()
