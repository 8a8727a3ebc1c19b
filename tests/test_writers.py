"""[11.1] may, may_write, [11.2] refused_at, behind, [11.3] to [11.5]: what a company can come to."""

import unittest

from relatedrights.profiles import profiles
from relatedrights.states import check
from relatedrights.writers import (
    behind, can_come, can_grow, fewest, gains, growing, keepers, may, may_write, refused_at, rounds_to, shows_way,
    way_to,
)
from tests.samples import ANY, ONE, deep_list, deep_tuple, odd_values, told

WHO = ("direct", (("one", "user"), ("who", "team", "member")))
SCHEMA = (("user", ()), ("bot", ()), ("team", (("boss", ONE), ("member", ("direct", (
    ("one", "user"), ("one", "bot"), ("who", "team", "member")))))), ("doc", (
        ("up", ("links", ("doc",))), ("own", ANY), ("edit", WHO),
        ("see", ("either", (("same", "own"), ("same", "edit"), ("through", "up", "see")))))))
BUT = SCHEMA[:3] + (("doc", SCHEMA[3][1][:2] + (("edit", WHO), ("see", ("but", ("same", "edit"), ONE)))),)
RULES = [("doc", "edit", "own", "own"), ("team", "member", "boss", None), ("doc", "up", "edit", None),
         ("team", "boss", None, "boss")]
ANN, BOB, CID, BOT = ("user", 1), ("user", 2), ("user", 3), ("bot", 1)
DOC, FAR, TEAM = ("doc", 7), ("doc", 8), ("team", 5)


def row(thing, relation, user):
    return (thing, relation, ("one", user))


OWN, EDIT, MEMBER, BOSS = row(DOC, "own", ANN), row(DOC, "edit", BOB), row(TEAM, "member", BOB), row(TEAM, "boss", CID)
TEAMS, LINK = (DOC, "edit", ("who", TEAM, "member")), (DOC, "up", ("one", FAR))
STATE = [OWN, BOSS]


class ExampleTest(unittest.TestCase):
    def test_the_example_of_the_document(self):
        schema = (("user", ()), ("doc", (("own", ("direct", (("one", "user"),))), ("see", ("direct", (("one", "user"),))))))
        rules, ann, bob = [("doc", "see", "own", None)], ("user", 1), ("user", 2)
        state = [(("doc", 7), "own", ("one", ann))]
        self.assertEqual(
            [may_write(schema, rules, state, ann, ("doc", 7)), gains(schema, rules, state, [ann], bob),
             rounds_to(schema, rules, state, [bob], ("doc", 7), "see", bob), keepers(schema, rules, "doc", "user", "see")],
            [(["see"], []), [(("doc", 7), "see")], None, [()]])


class RulesTest(unittest.TestCase):
    def wrong(self, rules, index):
        self.assertEqual(told(may, SCHEMA, rules, STATE, None, None), ("InvalidRules", index))
        self.assertEqual(told(behind, SCHEMA, rules, STATE, None), ("InvalidRules", index))
        self.assertEqual(told(gains, SCHEMA, rules, STATE, None, None), ("InvalidRules", index))
        self.assertEqual(told(keepers, SCHEMA, rules, None, None, None), ("InvalidRules", index))

    def test_what_are_no_rules(self):
        for rules in (None, {}, set(), "", 5, iter([]), {("doc", "own", None, None): 1}):
            self.wrong(rules, -1)
        for odd in odd_values() + [deep_tuple(), deep_list()]:
            if not isinstance(odd, (list, tuple)):
                self.wrong(odd, -1)
            self.wrong([RULES[0], odd], 1)
            for k in range(4):
                entry = RULES[0][:k] + (odd,) + RULES[0][k + 1:]
                if k < 2 or odd is not None:
                    self.wrong((RULES[1], entry), 1)

    def test_what_is_no_rule(self):
        for entry in (("user", "own", None, None), ("doc", "none", None, None), ("doc", "see", None, None),
                      ("doc", "edit", "up", None), ("doc", "edit", None, "up"), ("doc", "edit", "member", None),
                      ("doc", "edit", "own"), ("doc", "edit", "own", None, None), list(RULES[0]), ("team", "own", None, None),
                      ("none", "own", None, None), (["doc"], "own", None, None), ("doc", ["own"], None, None),
                      ("doc", "edit", False, None), ("doc", "edit", None, 0)):
            self.wrong([RULES[0], RULES[1], entry], 2)
            self.wrong([entry, 5], 0)

    def test_twice_the_same_relation(self):
        self.wrong([RULES[0], RULES[1], RULES[0]], 2)
        self.wrong([RULES[0], ("doc", "edit", None, None), 5], 1)
        self.assertIs(may(SCHEMA, [("doc", "own", None, None), ("doc", "up", None, None)], STATE, ANN, ("put", EDIT)), False)

    def test_behind_the_state(self):
        self.assertEqual(told(may, SCHEMA, 5, [5], None, None), ("InvalidState", 0))
        self.assertEqual(told(fewest, SCHEMA, 5, {}, None, None, None, None, None), ("InvalidState", -1))
        self.assertEqual(told(way_to, (5,), 5, {}, None, None, None, None), ("InvalidSchema", (0,)))


class MayTest(unittest.TestCase):
    def test_puts_and_takes(self):
        self.assertIs(may(SCHEMA, RULES, STATE, ANN, ("put", EDIT)), True)
        self.assertIs(may(SCHEMA, RULES, STATE, BOB, ("put", EDIT)), False)
        self.assertIs(may(SCHEMA, RULES, STATE, ANN, ("take", EDIT)), False)
        self.assertIs(may(SCHEMA, RULES, STATE + [EDIT], ANN, ("put", EDIT)), False)
        self.assertIs(may(SCHEMA, RULES, STATE + [EDIT, EDIT], ANN, ("take", EDIT)), True)
        self.assertIs(may(SCHEMA, RULES, STATE + [EDIT], BOB, ("take", EDIT)), False)
        # Nobody may take a member, nor put one who is the boss; and no rule tells of owners.
        self.assertIs(may(SCHEMA, RULES, STATE, CID, ("put", MEMBER)), True)
        self.assertIs(may(SCHEMA, RULES, STATE + [MEMBER], CID, ("take", MEMBER)), False)
        self.assertIs(may(SCHEMA, RULES, STATE, CID, ("put", row(TEAM, "boss", ANN))), False)
        self.assertIs(may(SCHEMA, RULES, STATE, CID, ("take", BOSS)), True)
        self.assertIs(may(SCHEMA, RULES, STATE, ANN, ("take", OWN)), False)
        self.assertIs(may(SCHEMA, [], STATE, ANN, ("put", EDIT)), False)
        self.assertIs(may(SCHEMA, (), STATE, ANN, ("put", row(("doc", 99), "edit", ANN))), False)
        everyone = [(DOC, "own", ("all", "user"))]
        self.assertIs(may(SCHEMA, RULES, everyone, ("user", 10 ** 20), ("put", EDIT)), True)
        self.assertIs(may(SCHEMA, RULES, everyone, BOT, ("put", EDIT)), False)

    def test_what_is_no_change(self):
        for change in (("put",), ("put", EDIT, 1), ["put", EDIT], ("Put", EDIT), (EDIT, "put"), ("put", list(EDIT)),
                       ("put", (DOC, "see", ("one", ANN))), ("take", row(DOC, "edit", BOT)), ("put", row(DOC, "edit", ("user", True))),
                       EDIT, "put", (1, EDIT), None):
            self.assertEqual(told(may, SCHEMA, RULES, STATE, ANN, change), ("InvalidChange", 0))
        for odd in odd_values() + [deep_tuple(), deep_list()]:
            for change in (odd, ("put", odd), (odd, EDIT), ("take", (DOC, "edit", odd))):
                self.assertEqual(told(may, SCHEMA, RULES, STATE, ANN, change), ("InvalidChange", 0))

    def test_may_write(self):
        self.assertEqual(may_write(SCHEMA, RULES, STATE, ANN, DOC), (["edit"], ["edit"]))
        self.assertEqual(may_write(SCHEMA, RULES, STATE + [row(DOC, "edit", ANN)], ANN, DOC), (["edit", "up"], ["edit"]))
        self.assertEqual(may_write(SCHEMA, RULES, STATE + [EDIT], BOB, DOC), (["up"], []))
        self.assertEqual(may_write(SCHEMA, RULES, STATE, CID, TEAM), (["member"], ["boss"]))
        self.assertEqual(may_write(SCHEMA, RULES, STATE, CID, ("team", 99)), ([], []))
        self.assertEqual(may_write(SCHEMA, tuple(RULES[::-1]), STATE + [row(DOC, "edit", ANN)], ANN, DOC), (["edit", "up"], ["edit"]))
        self.assertEqual(told(may_write, SCHEMA, RULES, STATE, DOC, ANN), ("InvalidUser", DOC))
        self.assertEqual(told(may_write, SCHEMA, RULES, STATE, ANN, ANN), ("InvalidObject", ANN))


class StepsTest(unittest.TestCase):
    STEPS = [(ANN, ("put", EDIT)), (BOB, ("put", LINK)), (ANN, ("put", EDIT)), (BOB, ("take", LINK)), (ANN, ("take", EDIT)),
             (BOB, ("put", (DOC, "up", ("one", DOC)))), (CID, ("put", MEMBER))]

    def test_refused_steps_change_nothing(self):
        self.assertEqual(refused_at(SCHEMA, RULES, STATE, self.STEPS), 2)
        self.assertEqual(behind(SCHEMA, RULES, STATE, self.STEPS), sorted(STATE + [LINK, MEMBER]))
        self.assertIsNone(refused_at(SCHEMA, RULES, STATE, self.STEPS[:2]))
        self.assertIsNone(refused_at(SCHEMA, RULES, STATE, []))
        self.assertEqual(refused_at(SCHEMA, RULES, STATE, self.STEPS[5:]), 0)
        self.assertEqual(behind(SCHEMA, RULES, STATE + STATE, ()), sorted(STATE))
        self.assertEqual(behind(SCHEMA, RULES, (), self.STEPS), [])

    def test_rights_that_come_and_go_with_steps(self):
        # Behind the first step Bob may link; who takes the boss from itself can not put members any more.
        steps = [(CID, ("put", MEMBER)), (CID, ("take", BOSS)), (CID, ("put", row(TEAM, "member", ANN)))]
        self.assertEqual(refused_at(SCHEMA, RULES, STATE, steps), 2)
        self.assertEqual(behind(SCHEMA, RULES, STATE, steps), sorted([OWN, MEMBER]))
        teams = [(ANN, ("put", TEAMS)), (BOB, ("put", LINK)), (CID, ("put", MEMBER)), (BOB, ("put", LINK)),
                 (ANN, ("take", TEAMS)), (BOB, ("put", (DOC, "up", ("one", DOC))))]
        self.assertEqual(behind(SCHEMA, RULES, STATE, teams), sorted(STATE + [MEMBER, LINK]))
        self.assertEqual(refused_at(SCHEMA, RULES, STATE, teams), 1)

    def test_more_than_2000_rows(self):
        state = [row(DOC, "own", ("user", k)) for k in range(2000)]
        steps = [(("user", k), ("put", row(DOC, "edit", ("user", k)))) for k in range(100)]
        self.assertIsNone(refused_at(SCHEMA, RULES, state, steps))
        self.assertEqual(len(behind(SCHEMA, RULES, state, steps)), 2100)

    def test_what_are_no_steps(self):
        for steps in (None, {}, set(), "", 5, iter([])):
            self.assertEqual(told(refused_at, SCHEMA, RULES, STATE, steps), ("InvalidChange", -1))
            self.assertEqual(told(behind, SCHEMA, RULES, STATE, steps), ("InvalidChange", -1))
        for odd in odd_values() + [deep_tuple(), deep_list()]:
            for step in (odd, (odd, ("put", EDIT)), (ANN, odd), (ANN, ("put", odd)), (ANN, ("put", EDIT), odd)):
                self.assertEqual(told(refused_at, SCHEMA, RULES, STATE, self.STEPS + [step, 5]), ("InvalidChange", 7))
                self.assertEqual(told(behind, SCHEMA, RULES, STATE, (step,)), ("InvalidChange", 0))


class CompanyTest(unittest.TestCase):
    def test_what_is_no_company(self):
        wrong = [[ANN, ANN], [DOC], ANN, [("user", k) for k in range(7)], {ANN}, {ANN: 1}, None, [ANN, 5], [list(ANN)],
                 [("user", True)], "", 5]
        for company in wrong + [[odd] for odd in odd_values()] + [deep_list(3000)]:
            for function, more in ((can_come, [None] * 3), (rounds_to, [None] * 3), (way_to, [None] * 3), (gains, [None]),
                                   (shows_way, [None] * 4), (fewest, [None] * 4)):
                answer = told(function, SCHEMA, RULES, STATE, company, *more)
                self.assertEqual(answer[0], "InvalidUser")
                self.assertIs(answer[1], company)
        six = [("user", k) for k in range(6)]
        self.assertIs(can_come(SCHEMA, RULES, STATE, six, DOC, "edit", BOB), True)
        self.assertIs(can_come(SCHEMA, RULES, STATE, (), DOC, "edit", BOB), False)


class WayTest(unittest.TestCase):
    def rounds(self, company, thing, relation, user, state=STATE):
        found = rounds_to(SCHEMA, RULES, state, company, thing, relation, user)
        steps = way_to(SCHEMA, RULES, state, company, thing, relation, user)
        self.assertIs(can_come(SCHEMA, RULES, state, company, thing, relation, user), found is not None)
        if found is None:
            self.assertIsNone(steps)
        else:
            self.assertIsNone(refused_at(SCHEMA, RULES, state, steps))
            self.assertTrue(check(SCHEMA, behind(SCHEMA, RULES, state, steps), thing, relation, user))
            self.assertTrue(all(member in company for member, _ in steps))
            self.assertIs(shows_way(SCHEMA, RULES, state, company, thing, relation, user, steps), True)
        return found

    def test_rounds(self):
        self.assertEqual(self.rounds([ANN], DOC, "own", ANN), 0)
        self.assertEqual(self.rounds([], DOC, "own", ANN), 0)
        self.assertEqual(self.rounds([ANN], DOC, "edit", ANN), 1)
        self.assertEqual(self.rounds([ANN], DOC, "edit", BOB), 1)
        self.assertEqual(self.rounds([BOB], DOC, "edit", BOB), None)
        # A bot comes only by the team.
        self.assertEqual(self.rounds([ANN, CID], DOC, "edit", BOT), 1)
        self.assertIsNone(self.rounds([ANN], DOC, "edit", BOT))
        self.assertIsNone(self.rounds([CID], DOC, "edit", BOT))
        self.assertEqual(self.rounds([CID], DOC, "edit", BOT, STATE + [TEAMS]), 1)
        self.assertEqual(self.rounds([ANN], DOC, "edit", ("user", 10 ** 20)), 1)

    def test_rounds_one_behind_the_other(self):
        state = STATE + [row(FAR, "own", BOB)]
        # Ann makes herself an editor, then links to what Bob has; Bob shares his own.
        self.assertEqual(self.rounds([ANN], DOC, "see", CID, state), 1)
        self.assertEqual(self.rounds([ANN], FAR, "see", CID, state), None)
        only = [row(DOC, "edit", ANN), row(FAR, "own", BOB)]
        self.assertEqual(self.rounds([ANN], DOC, "see", BOB, only), 1)
        self.assertEqual(self.rounds([ANN], DOC, "see", CID, only), None)
        self.assertEqual(self.rounds([ANN, BOB], DOC, "see", CID, only), 1)
        self.assertEqual(self.rounds([ANN], DOC, "see", BOB, [OWN, row(FAR, "own", BOB)]), 1)

    def test_chains_of_rounds(self):
        # Who sees a document may edit the next one.
        schema = (("user", ()), ("doc", (("up", ("links", ("doc",))), ("see", ONE), ("next", ("through", "up", "see")))))
        rules = [("doc", "see", "next", None)]
        things = [("doc", k) for k in range(30)]
        state = [(things[k + 1], "up", ("one", things[k])) for k in range(29)] + [(things[0], "see", ("one", ANN))]
        for k in range(30):
            self.assertEqual(rounds_to(schema, rules, state, [ANN], things[k], "see", ANN), k)
            self.assertEqual(len(way_to(schema, rules, state, [ANN], things[k], "see", ANN)), k)
            self.assertEqual(rounds_to(schema, rules, state, [ANN], things[k], "see", BOB), k if k else None)
        self.assertEqual(gains(schema, rules, state, [ANN], ANN), sorted(
            [(things[k], "next") for k in range(2, 30)] + [(things[k], "see") for k in range(1, 30)]))
        self.assertIsNone(rounds_to(schema, rules, state, [BOB], things[1], "see", ANN))

    def test_things_that_no_row_names(self):
        self.assertIsNone(self.rounds([ANN], ("doc", 99), "edit", ANN))
        self.assertIsNone(self.rounds([ANN], DOC, "edit", ANN, []))

    def test_all_of_a_kind(self):
        schema = (("user", ()), ("doc", (("own", ONE), ("see", ("direct", (("all", "user"),))))))
        state = [(DOC, "own", ("one", ANN))]
        self.assertEqual(way_to(schema, [("doc", "see", "own", None)], state, [ANN], DOC, "see", BOB),
                         [(ANN, ("put", (DOC, "see", ("all", "user"))))])
        self.assertEqual(rounds_to(schema, [("doc", "see", "own", None)], state, [ANN], DOC, "see", ("user", 77)), 1)

    def test_rows_that_are_there_are_not_put(self):
        state = [(DOC, "own", ("one", ANN)), (DOC, "edit", ("one", ANN)), (DOC, "up", ("one", FAR)), row(FAR, "edit", BOB)]
        self.assertEqual(way_to(SCHEMA, RULES, state, [ANN], DOC, "see", BOB), [])

    def test_gains(self):
        self.assertEqual(gains(SCHEMA, RULES, STATE, [ANN], ANN), [(DOC, "edit")])
        self.assertEqual(gains(SCHEMA, RULES, STATE, [ANN], BOB), [(DOC, "edit"), (DOC, "see")])
        self.assertEqual(gains(SCHEMA, RULES, STATE, [CID], BOT), [(TEAM, "member")])
        self.assertEqual(gains(SCHEMA, RULES, STATE, [ANN, CID], BOT), [(DOC, "edit"), (DOC, "see"), (TEAM, "member")])
        self.assertEqual(gains(SCHEMA, RULES, STATE, [], BOT), [])

    def test_shows_way(self):
        def shows(*steps, company=(ANN, CID), state=STATE):
            return shows_way(SCHEMA, RULES, state, company, DOC, "edit", BOB, list(steps))

        put, teams, member = (ANN, ("put", EDIT)), (ANN, ("put", TEAMS)), (CID, ("put", MEMBER))
        self.assertIs(shows(put), True)
        self.assertIs(shows(teams, member), True)
        self.assertIs(shows(member, teams), True)
        self.assertIs(shows(teams), False)
        self.assertIs(shows(put, put), False)
        self.assertIs(shows(put, (ANN, ("take", EDIT))), False)
        self.assertIs(shows(put, (ANN, ("take", EDIT)), put), True)
        self.assertIs(shows(put, company=[CID]), False)
        self.assertIs(shows(), False)
        self.assertIs(shows(state=[EDIT]), True)
        self.assertIs(shows(member, (BOB, ("put", LINK)), put), False)
        for odd in odd_values() + [deep_tuple(), deep_list()]:
            fine = isinstance(odd, (list, tuple)) and len(odd) == 0
            self.assertIs(shows_way(SCHEMA, RULES, [EDIT], [ANN], DOC, "edit", BOB, odd), fine)
            for step in (odd, (ANN, odd), (odd, ("put", EDIT)), (ANN, ("put", odd)), (ANN, ("put", EDIT), odd)):
                self.assertIs(shows_way(SCHEMA, RULES, [OWN], [ANN], DOC, "edit", BOB, [step]), False)
        self.assertIs(shows_way(SCHEMA, RULES, STATE, [ANN], DOC, "edit", ("user", 1), [(("user", True), (
            "put", row(DOC, "edit", ANN)))]), False)
        self.assertIs(shows_way(BUT, [], [EDIT], [ANN], DOC, "see", BOB, ()), True)

    def test_a_but_in_the_schema_behind_all_other_errors(self):
        inner = ("but", ("same", "edit"), ONE)
        hidden = SCHEMA[:3] + (("doc", SCHEMA[3][1][:3] + (("see", ("either", (("same", "own"), inner))),)),)
        for schema in (BUT, hidden):
            rules = [("doc", "edit", "own", "own")]
            for function in (can_come, rounds_to, way_to):
                self.assertEqual(told(function, schema, rules, STATE, [ANN], DOC, "edit", BOB), ("Mismatch", "schema"))
                self.assertEqual(told(function, schema, rules, STATE, [ANN], DOC, "edit", DOC), ("InvalidUser", DOC))
                self.assertEqual(told(function, schema, rules, STATE, [ANN], DOC, "up", DOC), ("InvalidRelation", "up"))
                self.assertEqual(told(function, schema, rules, STATE, [ANN], ANN, "up", DOC), ("InvalidObject", ANN))
            self.assertEqual(told(gains, schema, rules, STATE, [ANN], BOB), ("Mismatch", "schema"))
            self.assertEqual(told(gains, schema, rules, STATE, [ANN], DOC), ("InvalidUser", DOC))
            self.assertEqual(told(can_grow, schema, rules, "doc", "user", [], "see"), ("Mismatch", "schema"))
            self.assertEqual(told(can_grow, schema, rules, "doc", "user", [], "up"), ("InvalidRelation", "up"))
            self.assertEqual(told(keepers, schema, rules, "doc", "user", "see"), ("Mismatch", "schema"))
            self.assertEqual(told(growing, schema, rules, "doc", "user", [], "see"), ("Mismatch", "schema"))
            self.assertEqual(fewest(schema, rules, STATE, [ANN], [EDIT], DOC, "edit", BOB), [(ANN, ("put", EDIT))])


class FewestTest(unittest.TestCase):
    def test_the_shortest_and_the_least_of_several(self):
        rows = [TEAMS, MEMBER, EDIT]
        self.assertEqual(fewest(SCHEMA, RULES, STATE, [ANN, CID], rows, DOC, "edit", BOB), [(ANN, ("put", EDIT))])
        both = [(ANN, ("put", TEAMS)), (CID, ("put", MEMBER))]
        self.assertEqual(fewest(SCHEMA, RULES, STATE, [CID, ANN], rows[:2], DOC, "edit", BOB), both)
        self.assertEqual(fewest(SCHEMA, RULES, STATE, (CID, ANN), tuple(rows[1::-1]), DOC, "edit", BOB), both)
        self.assertIsNone(fewest(SCHEMA, RULES, STATE, [ANN], rows[:2], DOC, "edit", BOB))
        self.assertEqual(fewest(SCHEMA, RULES, STATE, [], [], DOC, "own", ANN), [])
        self.assertIsNone(fewest(SCHEMA, RULES, STATE, [], rows, DOC, "edit", BOB))
        two = STATE + [row(DOC, "own", CID)]
        self.assertEqual(fewest(SCHEMA, RULES, two, [CID, ANN], [EDIT], DOC, "edit", BOB), [(ANN, ("put", EDIT))])
        many = [row(DOC, "edit", ("user", k)) for k in (9, 4, 5)]
        self.assertEqual(fewest(SCHEMA, RULES, STATE, [ANN], many + [LINK, row(FAR, "own", BOB)], DOC, "see", BOB), None)

    def test_takes_under_a_but(self):
        schema = (("user", ()), ("doc", (("own", ONE), ("ban", ANY), ("see", ("but", ("same", "own"), ("same", "ban"))))))
        rules = [("doc", "ban", None, "own"), ("doc", "own", "see", None)]
        ban, everyone = row(DOC, "ban", ANN), (DOC, "ban", ("all", "user"))
        state = [OWN, ban, everyone]
        rows = [everyone, row(DOC, "own", BOB), ban]
        self.assertEqual(fewest(schema, rules, state, [ANN], rows, DOC, "see", BOB),
                         [(ANN, ("take", everyone)), (ANN, ("take", ban)), (ANN, ("put", rows[1]))])
        self.assertEqual(fewest(schema, rules, state, [ANN], rows, DOC, "see", ANN),
                         [(ANN, ("take", everyone)), (ANN, ("take", ban))])
        self.assertEqual(fewest(schema, rules, state * 2, [ANN], rows * 3, DOC, "see", ANN),
                         [(ANN, ("take", everyone)), (ANN, ("take", ban))])
        self.assertIsNone(fewest(schema, rules, state, [ANN], rows[1:], DOC, "see", ANN))

    def test_rows_that_are_put_and_taken_again(self):
        # With the key a door is opened, but who holds the key does not see.
        schema = (("user", ()), ("doc", (("own", ONE), ("key", ONE), ("door", ONE), ("see", (
            "but", ("same", "door"), ("same", "key"))))))
        rules = [("doc", "key", "own", "own"), ("doc", "door", "key", "own")]
        key, door = row(DOC, "key", ANN), row(DOC, "door", ANN)
        self.assertEqual(fewest(schema, rules, [OWN], [ANN], [door, key], DOC, "see", ANN),
                         [(ANN, ("put", key)), (ANN, ("put", door)), (ANN, ("take", key))])
        self.assertEqual(fewest(schema, rules, [OWN, key], [ANN], [door, key], DOC, "see", ANN),
                         [(ANN, ("put", door)), (ANN, ("take", key))])
        # The other way about: a row is taken, and put again.
        rules = [("doc", "key", "own", "own"), ("doc", "door", "own", "own"), ("doc", "own", "key", "key")]
        self.assertEqual(fewest(schema, rules, [OWN, key], [ANN], [key, OWN, door], DOC, "see", ANN),
                         [(ANN, ("put", door)), (ANN, ("take", key))])
        nobody = ("but", ("same", "own"), ("either", (("same", "key"), ("same", "door"))))
        schema = schema[:1] + (("doc", schema[1][1][:3] + (("free", nobody), ("see", ("both", (
            ("same", "own"), ("same", "door")))))),)
        rules = [("doc", "key", None, "own"), ("doc", "door", "free", None), ("doc", "own", "key", "own")]
        self.assertEqual(fewest(schema, rules, [OWN, key], [ANN], [key, OWN, door], DOC, "see", ANN),
                         [(ANN, ("take", key)), (ANN, ("put", door))])

    def test_10_rows_and_11(self):
        rows = [row(DOC, "edit", ("user", k)) for k in range(11)]
        self.assertEqual(fewest(SCHEMA, RULES, STATE, [ANN], rows[:10], DOC, "edit", ("user", 9)), [(ANN, ("put", rows[9]))])
        self.assertEqual(told(fewest, SCHEMA, RULES, STATE, [ANN], rows, None, None, None), ("InvalidChange", -1))
        self.assertEqual(told(fewest, SCHEMA, RULES, STATE, [ANN], rows[:1] * 11, None, None, None), ("InvalidChange", -1))
        self.assertEqual(told(fewest, SCHEMA, RULES, STATE, [ANN], [5] * 11, None, None, None), ("InvalidChange", -1))
        self.assertEqual(told(fewest, SCHEMA, RULES, STATE, [ANN], rows[:2] + [5, 6], None, None, None), ("InvalidChange", 2))

    def test_ten_steps(self):
        # Each document may be put only by who sees the one ahead of it; then the last row is in reach.
        schema = (("user", ()), ("doc", (("up", ("links", ("doc",))), ("see", ONE), ("next", ("through", "up", "see")))))
        rules = [("doc", "see", "next", None)]
        things = [("doc", k) for k in range(11)]
        state = [(things[k + 1], "up", ("one", things[k])) for k in range(10)] + [(things[0], "see", ("one", ANN))]
        rows = [(thing, "see", ("one", ANN)) for thing in things[1:]]
        self.assertEqual(fewest(schema, rules, state, [ANN], rows[::-1], things[10], "see", ANN),
                         [(ANN, ("put", one)) for one in rows])

    def test_what_are_no_rows(self):
        for rows in (None, {}, set(), "rows", 5):
            self.assertEqual(told(fewest, SCHEMA, RULES, STATE, [], rows, None, None, None), ("InvalidChange", -1))
        for odd in odd_values():
            self.assertEqual(told(fewest, SCHEMA, RULES, STATE, [], [EDIT, odd], None, None, None), ("InvalidChange", 1))


class GrowingTest(unittest.TestCase):
    def test_who_has_just_some_rights(self):
        self.assertIs(can_grow(SCHEMA, RULES, "doc", "user", ["own", "see"], "edit"), True)
        self.assertIs(can_grow(SCHEMA, RULES, "doc", "user", ("see",), "edit"), True)
        self.assertIs(can_grow(SCHEMA, RULES, "doc", "user", ("see",), "own"), False)
        self.assertIs(can_grow(SCHEMA, RULES, "doc", "user", ("see",), "see"), True)
        # Without own, edit may come only by a team of which the user is the boss.
        self.assertIs(can_grow(SCHEMA, RULES, "doc", "user", [], "edit"), True)
        self.assertIs(can_grow(SCHEMA, RULES[:1], "doc", "user", [], "edit"), False)
        # There is no such profile: who owns sees.
        self.assertIs(can_grow(SCHEMA, RULES, "doc", "user", ["own"], "see"), False)
        self.assertIsNone(growing(SCHEMA, RULES, "doc", "user", ["own"], "own"))
        # A bot is no boss.
        self.assertEqual(keepers(SCHEMA, RULES, "doc", "bot", "see"), [()])
        self.assertEqual(keepers(SCHEMA, RULES, "doc", "user", "own"), [(), ("edit", "see"), ("see",)])
        self.assertEqual(keepers(SCHEMA, RULES, "doc", "user", "see"), [])
        self.assertEqual(keepers(SCHEMA, [], "doc", "user", "see"), [()])

    def test_states_that_show_it(self):
        for kind in ("doc", "team"):
            for bare in ("user", "bot"):
                for relation in [name for name, rule in dict(SCHEMA)[kind] if rule[0] != "links"]:
                    for profile in profiles(SCHEMA, bare, kind):
                        told_of = growing(SCHEMA, RULES, kind, bare, profile, relation)
                        self.assertIs(told_of is not None, can_grow(SCHEMA, RULES, kind, bare, profile, relation))
                        self.assertIs(told_of is None, profile in keepers(SCHEMA, RULES, kind, bare, relation))
                        if told_of:
                            state, user, thing, steps = told_of
                            self.assertIs(shows_way(SCHEMA, RULES, state, [user], thing, relation, user, steps), True)
                            self.assertEqual(steps == [], relation in profile)

    def test_errors_in_their_order(self):
        wide = (("user", ()), ("doc", tuple((name, ONE) for name in "abcdef")), ("dir", tuple((name, ONE) for name in "abcdef")),
                ("dot", tuple((name, ONE) for name in "abcdef")))
        wide += (("dog", tuple((name, ONE) for name in "abcdef")), ("den", (("a", ONE),)))
        rules = [("doc", "a", "b", None)]
        self.assertEqual(told(can_grow, wide, rules, "doc", "user", [], "a"), ("TooLarge", 256))
        self.assertEqual(told(keepers, wide, rules, "doc", "user", "a"), ("TooLarge", 256))
        self.assertEqual(told(growing, wide, rules, "doc", "user", ["a"], "a"), ("TooLarge", 256))
        but = (("user", ()), ("doc", (("b", ONE), ("a", ("but", ONE, ("same", "b"))))),) + wide[2:]
        self.assertEqual(told(can_grow, but, rules, "doc", "user", [], "a"), ("Mismatch", "schema"))
        for function, more in ((can_grow, [5, 5]), (growing, [5, 5]), (keepers, [5])):
            self.assertEqual(told(function, wide, [5], 5, 5, *more), ("InvalidRules", 0))
            for kind in ("user", "none", None, ["doc"]):
                self.assertEqual(told(function, wide, rules, kind, 5, *more), ("InvalidKind", kind))
            for bare in ("doc", "none", None, ["user"]):
                self.assertEqual(told(function, wide, rules, "doc", bare, *more), ("InvalidKind", bare))
        for profile in (["none"], ["a", "a"], None, "a", {"a"}, ["a", 5], [["a"]]):
            for function in (can_grow, growing):
                self.assertEqual(told(function, wide, rules, "doc", "user", profile, 5), ("Mismatch", "profile"))
        for relation in ("none", None, ["a"]):
            self.assertEqual(told(can_grow, wide, rules, "doc", "user", ["a"], relation), ("InvalidRelation", relation))
            self.assertEqual(told(keepers, wide, rules, "doc", "user", relation), ("InvalidRelation", relation))

    def test_several_rights_through_one_link(self):
        # What is linked to may have none of the rights at first that do not come through the link.
        names = ("a", "b", "c")
        schema = (("user", ()), ("doc", (("own", ONE),) + tuple((name, ONE) for name in names)), ("dir", (
            ("up", ("links", ("doc",))),) + tuple((name, ("through", "up", name)) for name in names)))
        rules = [("doc", name, "own", None) for name in names]
        for profile in ((), ("a",), ("b",), ("c",), ("a", "b"), ("a", "c"), ("b", "c")):
            for name in names:
                self.assertIs(can_grow(schema, rules, "dir", "user", profile, name), True)
                state, user, thing, steps = growing(schema, rules, "dir", "user", profile, name)
                self.assertEqual(tuple(one for one in names if check(schema, state, thing, one, user)), profile)
                self.assertIs(shows_way(schema, rules, state, [user], thing, name, user, steps), True)
            self.assertEqual(keepers(schema, [], "dir", "user", "b"), [(), ("a",), ("a", "c"), ("c",)])
        # Only b can be put: who lacks a and c by the link can not come to them, whatever else there is.
        for profile in ((), ("a",), ("b",), ("c",), ("a", "c")):
            self.assertIs(can_grow(schema, rules[1:2], "dir", "user", profile, "b"), True)
            for name in ("a", "c"):
                self.assertIs(can_grow(schema, rules[1:2], "dir", "user", profile, name), name in profile)

    def test_rows_that_tell_what_is_had_only_later(self):
        # To the second document the user comes by own puts; the first one has a row that tells so.
        schema = (("user", ()), ("doc", (("own", ONE), ("edit", ONE), ("see", ("direct", (("who", "doc", "edit"),))),
                                         ("up", ("links", ("doc",))), ("far", ("through", "up", "edit")))))
        rules = [("doc", "edit", "own", None)]
        for relation in ("see", "far"):
            state, user, thing, steps = growing(schema, rules, "doc", "user", [], relation)
            self.assertIs(shows_way(schema, rules, state, [user], thing, relation, user, steps), True)
            self.assertEqual([name for name in ("own", "edit", "see", "far") if check(schema, state, thing, name, user)], [])
        self.assertEqual(keepers(schema, [], "doc", "user", "see"), sorted(
            one for one in profiles(schema, "user", "doc") if "see" not in one))


if __name__ == "__main__":
    unittest.main()
