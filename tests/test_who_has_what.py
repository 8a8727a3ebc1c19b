"""[2.2] check, [2.3] who_has, [2.4] rights_of and named_users: who has which rights."""

import random
import unittest

from relatedrights.states import check, named_users, rights_of, who_has
from tests.samples import ANY, GREAT, GROUP, ONE, SCHEMA, STATE

DOC, ANN, BOB, CID = ("doc", 1), ("user", 1), ("user", 2), ("user", 3)


def schema_with(*entries):
    return (("user", ()), ("bot", ()), GROUP, ("doc", entries))


def gives(user, thing=DOC, relation="own"):
    return (thing, relation, ("one", user))


class ExampleTest(unittest.TestCase):
    def test_the_example_of_the_document(self):
        group = ("group", (("member", ("direct", (("one", "user"), ("who", "group", "member")))),))
        doc = ("doc", (("viewer", ("direct", (("who", "group", "member"), ("all", "user")))),))
        schema = (("user", ()), group, doc)
        ring = [(("group", 1), "member", ("who", ("group", 2), "member")),
                (("group", 2), "member", ("who", ("group", 1), "member"))]
        state = ring + [(("group", 2), "member", ("one", ("user", 7))),
                        (("doc", 3), "viewer", ("who", ("group", 1), "member"))]
        answers = [check(schema, state, ("doc", 3), "viewer", ("user", 7)),
                   check(schema, state, ("doc", 3), "viewer", ("user", 8)),
                   who_has(schema, state, ("group", 1), "member")]
        self.assertEqual(answers, [True, False, ([("user", 7)], [])])


class RulesTest(unittest.TestCase):
    def expect(self, schema, state, relation, users, kinds=()):
        """Who has a right to DOC, by each of the functions, and for rows in any order."""
        for rows in (state, state[::-1], tuple(state * 2), sorted(state)):
            self.assertEqual(who_has(schema, rows, DOC, relation), (users, list(kinds)))
            for user in named_users(schema, rows) + [("user", 99), ("bot", 99)]:
                has = user in users or (user[1] == 99 and user[0] in kinds)
                self.assertIs(check(schema, rows, DOC, relation, user), has)
                self.assertIs((DOC, relation) in rights_of(schema, rows, user), has)

    def test_direct_rows(self):
        self.expect(schema_with(("own", ONE)), [gives(BOB), gives(ANN), gives(CID, ("doc", 2))], "own", [ANN, BOB])

    def test_all_users_of_a_kind(self):
        rule = ("direct", (("one", "user"), ("all", "user"), ("one", "bot"), ("all", "bot")))
        schema = schema_with(("own", rule))
        everyone = (DOC, "own", ("all", "user"))
        self.expect(schema, [everyone], "own", [], ["user"])
        self.expect(schema, [everyone, gives(("bot", 4)), gives(ANN, ("doc", 2))], "own", [("bot", 4), ANN], ["user"])
        self.expect(schema, [everyone, (DOC, "own", ("all", "bot"))], "own", [], ["bot", "user"])

    def test_groups_in_groups(self):
        rows = [(DOC, "own", ("who", ("group", 1), "member")), gives(ANN, ("group", 1), "member"),
                (("group", 1), "member", ("who", ("group", 2), "member")), gives(BOB, ("group", 2), "member"),
                (("group", 3), "member", ("who", ("group", 2), "member")), gives(CID, ("group", 3), "member")]
        self.expect(schema_with(("own", ("direct", (("who", "group", "member"),)))), rows, "own", [ANN, BOB])

    def test_groups_in_rings(self):
        rows = [(DOC, "own", ("who", ("group", 1), "member"))]
        rows += [(("group", k), "member", ("who", ("group", k % 3 + 1), "member")) for k in (1, 2, 3)]
        schema = schema_with(("own", ("direct", (("who", "group", "member"),))))
        self.expect(schema, rows, "own", [])
        members = [gives(ANN, ("group", 3), "member"), gives(BOB, ("group", 4), "member")]
        self.expect(schema, rows + members, "own", [ANN])
        itself = [(("group", 1), "member", ("who", ("group", 1), "member")), rows[0]]
        self.expect(schema, itself, "own", [])
        self.expect(schema, itself + [gives(ANN, ("group", 1), "member")], "own", [ANN])

    def test_who_reads_another_right_of_another_kind(self):
        schema = schema_with(("own", ONE), ("see", ("direct", (("who", "doc", "own"), ("who", "doc", "see")))))
        rows = [(DOC, "see", ("who", ("doc", 2), "own")), (DOC, "see", ("who", ("doc", 3), "see")),
                gives(ANN, ("doc", 2)), gives(BOB, ("doc", 3)), gives(CID, ("doc", 1))]
        self.expect(schema, rows, "see", [ANN])

    def test_same(self):
        self.expect(schema_with(("see", ("same", "own")), ("own", ONE)), [gives(ANN)], "see", [ANN])

    def test_through_links(self):
        entries = (("up", ("links", ("doc", "group"))), ("member", ("either", (ONE, ("through", "up", "member")))))
        rows = [(DOC, "up", ("one", ("doc", 2))), (DOC, "up", ("one", ("group", 5))), gives(ANN, ("doc", 2), "member"),
                gives(BOB, ("group", 5), "member"), gives(CID, ("group", 6), "member")]
        self.expect(schema_with(*entries), rows, "member", [ANN, BOB])

    def test_links_in_rings(self):
        entries = (("up", ("links", ("doc",))), ("own", ONE),
                   ("see", ("either", (("same", "own"), ("through", "up", "see")))))
        rows = [(("doc", k), "up", ("one", ("doc", k % 3 + 1))) for k in (1, 2, 3)]
        self.expect(schema_with(*entries), rows, "see", [])
        self.expect(schema_with(*entries), rows + [gives(ANN, ("doc", 3)), gives(BOB, ("doc", 2))], "see", [ANN, BOB])

    def test_a_link_alone_gives_nothing_to_its_other_end(self):
        entries = (("up", ("links", ("doc",))), ("own", ONE), ("see", ("through", "up", "own")))
        rows = [(("doc", 2), "up", ("one", DOC)), gives(ANN, ("doc", 2)), gives(BOB, DOC)]
        self.expect(schema_with(*entries), rows, "see", [])
        self.assertEqual(who_has(schema_with(*entries), rows, ("doc", 2), "see"), ([BOB], []))

    def test_either_both_and_but(self):
        parts = (("same", "own"), ("same", "ban"), ("same", "edit"))
        base = (("own", ANY), ("ban", ANY), ("edit", ANY))
        everyone = [("user", k) for k in range(8)]
        rows = [gives(user, DOC, name) for user in everyone
                for k, name in enumerate(("own", "ban", "edit")) if user[1] >> k & 1]
        rows.append((("doc", 2), "own", ("one", ("user", 0))))

        def expect(rule, wanted):
            users = [user for user in everyone if wanted(user[1] & 1, user[1] & 2, user[1] & 4)]
            self.expect(schema_with(("see", rule), *base), rows, "see", users)

        expect(("either", parts), lambda own, ban, edit: own or ban or edit)
        expect(("both", parts), lambda own, ban, edit: own and ban and edit)
        expect(("but", parts[0], parts[1]), lambda own, ban, edit: own and not ban)
        expect(("but", ("but", parts[0], parts[1]), parts[2]), lambda own, ban, edit: own and not ban and not edit)
        expect(("but", parts[0], ("but", parts[1], parts[2])), lambda own, ban, edit: own and not (ban and not edit))
        expect(("both", (parts[2], ("either", parts[:2]))), lambda own, ban, edit: edit and (own or ban))
        expect(("but", ("either", parts[:2]), ("both", parts[1:])), 
               lambda own, ban, edit: (own or ban) and not (ban and edit))

    def test_but_over_all_users(self):
        schema = schema_with(("own", ANY), ("ban", ANY), ("see", ("but", ("same", "own"), ("same", "ban"))))
        everyone = (DOC, "own", ("all", "user"))
        self.expect(schema, [everyone, gives(ANN, DOC, "ban"), gives(BOB, ("doc", 2))], "see", [BOB], ["user"])
        self.expect(schema, [gives(ANN), gives(BOB), (DOC, "ban", ("all", "user"))], "see", [])
        self.expect(schema, [everyone, (DOC, "ban", ("all", "user"))], "see", [])

    def test_levels_of_buts(self):
        entries = [("ra", ANY)]
        for name, below in (("rb", "ra"), ("rc", "rb"), ("rd", "rc"), ("re", "rd"), ("rf", "re")):
            entries.append((name, ("but", ("direct", (("all", "user"),)), ("same", below))))
        rows = [(DOC, name, ("all", "user")) for name, _ in entries[1:]]
        rows += [gives(ANN, DOC, "ra"), gives(BOB, ("doc", 2), "ra")]
        for order in (entries, entries[::-1]):
            schema = schema_with(*order)
            for name, has in (("ra", True), ("rb", False), ("rc", True), ("rd", False), ("re", True), ("rf", False)):
                others = [] if has else [BOB]
                self.expect(schema, rows, name, [ANN] if has else others, [] if has else ["user"])

    def test_a_but_takes_away_what_comes_of_a_ring(self):
        schema = schema_with(("up", ("links", ("doc",))), ("ban", ("either", (ANY, ("through", "up", "ban")))),
                             ("see", ("but", ("direct", (("all", "user"),)), ("same", "ban"))))
        rows = [(DOC, "up", ("one", ("doc", 2))), (("doc", 2), "up", ("one", DOC)), (DOC, "see", ("all", "user"))]
        self.expect(schema, rows, "see", [], ["user"])
        self.expect(schema, rows + [gives(ANN, ("doc", 2), "ban")], "see", [], ["user"])

    def test_what_only_a_ring_would_hold_up_nobody_has(self):
        schema = schema_with(("own", ("same", "see")), ("see", ("same", "own")),
                             ("edit", ("both", (ANY, ("same", "edit")))),
                             ("ban", ("but", ("direct", (("all", "user"),)), ("same", "own"))))
        rows = [gives(ANN, DOC, "edit"), (DOC, "edit", ("all", "user")), (DOC, "ban", ("all", "user"))]
        for name in ("own", "see", "edit"):
            self.expect(schema, rows, name, [])
        self.expect(schema, rows, "ban", [ANN], ["user"])

    def test_both_in_a_ring_grows_step_by_step(self):
        two, three = ("doc", 2), ("doc", 3)
        ways = ("both", (("through", "up", "see"), ("through", "down", "see")))
        schema = schema_with(("up", ("links", ("doc",))), ("down", ("links", ("doc",))), ("own", ONE),
                             ("see", ("either", (("same", "own"), ways))))
        rows = [(DOC, "up", ("one", two)), (DOC, "down", ("one", three)), (two, "up", ("one", three)),
                (two, "down", ("one", three)), (three, "up", ("one", DOC)), gives(ANN, three), gives(BOB, two)]
        self.expect(schema, rows, "see", [ANN])


class UnnamedTest(unittest.TestCase):
    def test_users_that_no_row_names(self):
        self.assertIs(check(SCHEMA, STATE, ("doc", 5), "own", ("bot", GREAT)), True)
        self.assertIs(check(SCHEMA, STATE, ("doc", 5), "own", ("user", GREAT)), False)
        self.assertEqual(rights_of(SCHEMA, STATE, ("bot", 0)), [(("doc", 5), "own"), (("doc", 5), "see"),
                                                              (("doc", 6), "see")])
        self.assertEqual(rights_of(SCHEMA, STATE, ("user", 0)), [(("doc", 6), "ban")])

    def test_things_that_no_row_names(self):
        for thing in (("doc", 0), ("doc", GREAT), ("folder", 9)):
            self.assertIs(check(SCHEMA, STATE, thing, "see", ("user", 3)), False)
            self.assertEqual(who_has(SCHEMA, STATE, thing, "own"), ([], []))

    def test_the_empty_state(self):
        for state in ([], ()):
            self.assertEqual(who_has(SCHEMA, state, ("doc", 1), "see"), ([], []))
            self.assertIs(check(SCHEMA, state, ("doc", 1), "see", ("user", 1)), False)
            self.assertEqual(rights_of(SCHEMA, state, ("user", 1)), [])
            self.assertEqual(named_users(SCHEMA, state), [])

    def test_who_rows_and_links_name_no_users(self):
        self.assertEqual(named_users(SCHEMA, STATE), [("user", 1), ("user", 2), ("user", 3)])
        self.assertEqual(named_users(SCHEMA, STATE[1:2] + STATE[4:8]), [])


class OrderTest(unittest.TestCase):
    def test_users_kinds_and_things_ascend(self):
        rule = ("direct", (("one", "zed"), ("one", "bot"), ("all", "zed"), ("all", "bot")))
        doc = ("doc", (("see", ("same", "own")), ("own", rule)))
        schema = (("zed", ()), doc, ("bot", ()), ("box", (("own", rule),)))
        numbers = [10, 9, GREAT, 2, 1, 100, 0]
        rows = [(("doc", 2), "own", ("one", (kind, number))) for number in numbers for kind in ("zed", "bot")]
        users = [(kind, number) for kind in ("bot", "zed") for number in sorted(numbers)]
        self.assertEqual(who_has(schema, rows, ("doc", 2), "own"), (users, []))
        self.assertEqual(named_users(schema, rows), users)
        rows += [(("doc", 2), "own", ("all", "zed")), (("doc", 2), "own", ("all", "bot"))]
        self.assertEqual(who_has(schema, rows, ("doc", 2), "see"), (users, ["bot", "zed"]))
        rows = [((kind, number), "own", ("one", ("zed", 5))) for kind in ("doc", "box") for number in (10, 9, GREAT, 0)]
        expected = [(("box", number), "own") for number in (0, 9, 10, GREAT)]
        for number in (0, 9, 10, GREAT):
            expected += [(("doc", number), "see"), (("doc", number), "own")]
        self.assertEqual(rights_of(schema, rows, ("zed", 5)), expected)

    def test_any_order_and_any_number_of_the_rows(self):
        chance = random.Random(3)
        for _ in range(30):
            rows = STATE + [chance.choice(STATE) for _ in range(9)]
            chance.shuffle(rows)
            for thing, relation in ((("doc", 5), "see"), (("doc", 6), "see"), (("folder", 2), "see"),
                                    (("doc", 5), "edit")):
                self.assertEqual(who_has(SCHEMA, rows, thing, relation), who_has(SCHEMA, STATE, thing, relation))

    def test_kinds_of_things_named_by_the_other_end_alone(self):
        schema = (("user", ()), ("doc", (("up", ("links", ("doc",))), ("own", ONE), ("see", ("through", "up", "own")))))
        rows = [(("doc", 2), "up", ("one", ("doc", 1)))]
        self.assertEqual(rights_of(schema, rows, ANN), [])


class SizesTest(unittest.TestCase):
    def test_a_chain_of_hundreds_of_groups(self):
        many = 1000
        rows = [(("group", k), "member", ("who", ("group", k + 1), "member")) for k in range(many - 1)]
        rows += [(("group", k), "member", ("one", ("user", k))) for k in range(many)]
        for state in (rows, rows[::-1]):
            self.assertEqual(who_has(SCHEMA, state, ("group", 0), "member"), ([("user", k) for k in range(many)], []))
            self.assertEqual(who_has(SCHEMA, state, ("group", 998), "member"), ([("user", 998), ("user", 999)], []))
            self.assertIs(check(SCHEMA, state, ("group", 0), "member", ("user", 999)), True)
            self.assertIs(check(SCHEMA, state, ("group", 999), "member", ("user", 0)), False)
            self.assertEqual(len(rights_of(SCHEMA, state, ("user", 999))), many)

    def test_a_ring_of_two_thousand_groups(self):
        rows = [(("group", k), "member", ("who", ("group", (k + 1) % 1999), "member")) for k in range(1999)]
        rows.append((("group", 1000), "member", ("one", ANN)))
        self.assertEqual(len(rights_of(SCHEMA, rows, ANN)), 1999)
        self.assertEqual(rights_of(SCHEMA, rows, BOB), [])
        self.assertEqual(who_has(SCHEMA, rows, ("group", 1001), "member"), ([ANN], []))

    def test_a_ring_both_ways_round_with_a_user_in_each(self):
        many = 600
        rows = [(("group", k), "member", ("who", ("group", (k + step) % many), "member")) for k in range(many)
                for step in (1, many - 1)]
        rows += [(("group", k), "member", ("one", ("user", k))) for k in range(many)]
        self.assertEqual(who_has(SCHEMA, rows, ("group", 3), "member"), ([("user", k) for k in range(many)], []))

    def test_links_over_hundreds_of_things(self):
        rows = [(("folder", k), "up", ("one", ("folder", k + 1))) for k in range(1500)]
        rows += [(("folder", 1500), "own", ("one", ANN)), (("folder", 0), "up", ("one", ("folder", 0)))]
        self.assertIs(check(SCHEMA, rows, ("folder", 0), "see", ANN), True)
        self.assertEqual(len(rights_of(SCHEMA, rows, ANN)), 1502)

    def test_one_group_with_two_thousand_users(self):
        rows = [(("group", 1), "member", ("one", ("user", 2 * k))) for k in range(2000)]
        self.assertEqual(who_has(SCHEMA, rows, ("group", 1), "member"), ([("user", 2 * k) for k in range(2000)], []))
        self.assertEqual(len(named_users(SCHEMA, rows)), 2000)

    def test_a_thing_that_reads_a_thousand_others_by_two_ways(self):
        entries = (("up", ("links", ("doc",))), ("own", ONE), ("low", ("either", (("same", "own"), ("through", "up", "low")))),
                   ("ban", ("either", (ONE, ("through", "up", "ban")))),
                   ("see", ("both", (("through", "up", "low"), ("through", "up", "ban")))))
        schema = schema_with(*entries)
        rows = [(("doc", 0), "up", ("one", ("doc", k))) for k in range(1, 1000)]
        rows += [gives(ANN, ("doc", k)) for k in range(1, 1000)]
        self.assertIs(check(schema, rows, ("doc", 0), "see", ANN), False)
        self.assertEqual(who_has(schema, rows, ("doc", 0), "see"), ([], []))
        rows.append(gives(ANN, ("doc", 500), "ban"))
        self.assertIs(check(schema, rows, ("doc", 0), "see", ANN), True)
        self.assertEqual(who_has(schema, rows, ("doc", 0), "see"), ([ANN], []))
        back = rows[:900] + [(("doc", k), "up", ("one", ("doc", 0))) for k in range(1, 900)]
        back += [gives(ANN, ("doc", 5)), gives(ANN, ("doc", 7), "ban")]
        self.assertEqual(len(rights_of(schema, back, ANN)), 1 + 3 * 900)
        self.assertEqual(len(rights_of(schema, back[:-1], ANN)), 1 + 900)

    def test_as_many_levels_as_there_can_be(self):
        kinds, names = "abcde", ("ra", "rb", "rc", "rd", "re", "rf")
        schema, rows, ahead = [("user", ())], [], None
        for kind in kinds:
            entries = []
            for name in names:
                same = ("same", name[0] + chr(ord(name[1]) - 1))
                rule = ("but", ONE, ("both", (("both", (("both", (("both", (same, same)), same)), same)), same)))
                if name == "ra":
                    rule = ("direct", (("one", "user"),) + ((("who",) + ahead,) if ahead else ()))
                    rows.append(((kind, 1), name, ("who", (ahead[0], 1), ahead[1]) if ahead else ("one", ANN)))
                else:
                    rows.append(((kind, 1), name, ("one", ANN)))
                entries.append((name, rule))
                ahead = (kind, name)
            schema.append((kind, tuple(entries)))
        schema = tuple(schema)
        # Each right but the first ones of the kinds is had just if the one ahead of it is not.
        had = {"a": "ra rc re", "b": "rb rd rf", "c": "ra rc re", "d": "rb rd rf", "e": "ra rc re"}
        expected = [((kind, 1), name) for kind in kinds for name in had[kind].split()]
        self.assertEqual(rights_of(schema, rows, ANN), expected)
        self.assertIs(check(schema, rows, ("e", 1), "rf", ANN), False)
        self.assertEqual(who_has(schema, rows, ("e", 1), "re"), ([ANN], []))

    def test_the_greatest_rules(self):
        def full(depth, k):
            if depth == 1:
                return ("same", ("own", "ban", "edit", "see")[k % 4])
            return (("either", "both")[depth % 2], tuple(full(depth - 1, 3 * k + part) for part in range(4)))
        schema = schema_with(("up", ("links", ("doc",))), ("own", ANY),
                             ("ban", ("either", (("same", "own"), ("through", "up", "ban")))),
                             ("edit", full(6, 1)), ("see", full(6, 2)))
        rows = [(("doc", k), "up", ("one", ("doc", k + 1))) for k in range(900)] + [gives(ANN, ("doc", 900))]
        self.assertEqual(len([node for node in rights_of(schema, rows, ANN) if node[1] == "ban"]), 901)


if __name__ == "__main__":
    unittest.main()
