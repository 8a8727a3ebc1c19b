"""[8.1] switched, [8.2] least_change, minimal_changes, [8.3] effects, [8.4] quiet_change, [8.5], [8.6]."""

import unittest

from relatedrights.changes import (
    effects, judge_change, least_change, minimal_changes, quiet_change, switched, why_not,
)
from tests.samples import ANY, ONE, deep_list, deep_tuple, odd_values, told

SCHEMA = (("user", ()), ("bot", ()), ("team", (("member", ("direct", (("one", "user"), ("who", "team", "member")))),)), (
    "doc", (("up", ("links", ("doc",))), ("ban", ANY),
            ("view", ("direct", (("one", "user"), ("all", "user"), ("all", "bot"), ("who", "team", "member")))),
            ("see", ("but", ("either", (("same", "view"), ("through", "up", "see"))), ("same", "ban"))))))
DOC, FAR, TEAM = ("doc", 7), ("doc", 8), ("team", 1)
ANN, BOB = ("user", 2), ("user", 3)
SEE = [("doc", "see")]


def view(user, thing=DOC, relation="view"):
    return (thing, relation, ("one", user))


EVERYONE, BOTS = (DOC, "view", ("all", "user")), (DOC, "view", ("all", "bot"))
TEAMS, LINK = (DOC, "view", ("who", TEAM, "member")), (DOC, "up", ("one", FAR))
BAN = view(ANN, DOC, "ban")


def wish(user=ANN, wanted=True, thing=DOC, relation="see"):
    return (thing, relation, user, wanted)


class ExampleTest(unittest.TestCase):
    def test_the_example_of_the_document(self):
        member = ("member", ("direct", (("one", "user"),)))
        view = ("view", ("direct", (("one", "user"), ("all", "user"), ("who", "team", "member"))))
        schema = (("user", ()), ("team", (member,)), ("doc", (view,)))
        state = [(("doc", 7), "view", ("who", ("team", 1), "member"))]
        switches = [(("team", 1), "member", ("one", ("user", 2))), (("doc", 7), "view", ("all", "user")),
                    (("doc", 7), "view", ("one", ("user", 2)))]
        w = [(("doc", 7), "view", ("user", 2), True)]
        self.assertEqual(
            [least_change(schema, state, switches, w), minimal_changes(schema, state, switches, w),
             quiet_change(schema, state, switches, w, [("team", "member"), ("doc", "view")])],
            [(0,), [(0,), (1,), (2,)], ((2,), 0)])


class SwitchedTest(unittest.TestCase):
    def test_the_order_of_the_rows(self):
        state = [TEAMS, view(BOB), BAN, view(BOB), TEAMS]
        switches = [EVERYONE, view(BOB), LINK, TEAMS]
        self.assertEqual(switched(SCHEMA, state, switches, ()), [TEAMS, view(BOB), BAN])
        self.assertEqual(switched(SCHEMA, state, switches, (1,)), [TEAMS, BAN])
        self.assertEqual(switched(SCHEMA, tuple(state), tuple(switches), (0, 1, 2)), [TEAMS, BAN, EVERYONE, LINK])
        self.assertEqual(switched(SCHEMA, state, switches[::-1], (0, 1, 2, 3)), [BAN, LINK, EVERYONE])
        self.assertEqual(switched(SCHEMA, [], [], ()), [])

    def test_what_is_no_change(self):
        switches = [EVERYONE, view(BOB)]
        for change in ((2,), (-1,), (0, 0), (1, 0), (True,), (False,), (0, True), [0], [], 0, None, "", "0", ("0",),
                       ((0,),), (None,), {0}, {0: 1}, (0, 1, 2), (10 ** 30,), range(1)):
            self.assertEqual(told(switched, SCHEMA, [], switches, change), ("Mismatch", "change"))
            self.assertEqual(told(effects, SCHEMA, [], switches, change, None), ("Mismatch", "change"))
        for odd in odd_values() + [deep_tuple(), deep_list()]:
            if odd != ():
                self.assertEqual(told(switched, SCHEMA, [], switches, odd), ("Mismatch", "change"))


class SwitchesTest(unittest.TestCase):
    def test_10_switches_and_11(self):
        rows = [view(("user", k)) for k in range(12)]
        wishes = [wish(("user", k)) for k in range(8)]
        self.assertEqual(least_change(SCHEMA, [], rows[:10], wishes), tuple(range(8)))
        self.assertEqual(minimal_changes(SCHEMA, [], tuple(rows[:10]), tuple(wishes)), [tuple(range(8))])
        self.assertEqual(quiet_change(SCHEMA, rows[:10], rows[:10], [wish(("user", 9), False)], SEE), ((9,), 0))
        for function in (least_change, minimal_changes, why_not, switched):
            self.assertEqual(told(function, SCHEMA, [], rows[:11], None), ("TooLarge", 10))
            self.assertEqual(told(function, SCHEMA, [], rows[:11] + [5], None), ("Mismatch", "switches"))
            self.assertEqual(told(function, SCHEMA, [], rows[:11] + rows[:1], None), ("Mismatch", "switches"))
        for function in (quiet_change, judge_change, effects):
            self.assertEqual(told(function, SCHEMA, [], rows[:11], None, None), ("TooLarge", 10))
            self.assertEqual(told(function, SCHEMA, [], rows[:11] * 2, None, None), ("Mismatch", "switches"))

    def test_what_are_no_switches(self):
        wrong = [[view(BOB), view(BOB)], [view(("user", True))], [list(view(BOB))], view(BOB), {view(BOB)},
                 {view(BOB): True}, None, "rows", [(DOC, "see", ("one", ANN))], [(DOC, "view", ("all", "none"))]]
        for switches in wrong + [[odd] for odd in odd_values()]:
            for function in (least_change, minimal_changes, why_not, switched):
                self.assertEqual(told(function, SCHEMA, [], switches, None), ("Mismatch", "switches"))
            for function in (quiet_change, judge_change, effects):
                self.assertEqual(told(function, SCHEMA, [], switches, None, None), ("Mismatch", "switches"))

    def test_switches_that_are_in_the_state_and_twice_in_it(self):
        state = [view(ANN), EVERYONE, view(ANN)]
        switches = [view(ANN), EVERYONE, BAN]
        self.assertEqual(least_change(SCHEMA, state, switches, [wish(wanted=False)]), (2,))
        self.assertEqual(minimal_changes(SCHEMA, state, switches, [wish(wanted=False)]), [(2,), (0, 1)])
        self.assertEqual(minimal_changes(SCHEMA, state, switches[:2], [wish(wanted=False)]), [(0, 1)])
        self.assertEqual(switched(SCHEMA, state, switches, (0,)), [EVERYONE])


class LeastChangeTest(unittest.TestCase):
    def test_changes_by_their_order(self):
        switches = [view(ANN, TEAM, "member"), TEAMS, LINK, view(ANN, FAR), view(ANN)]
        self.assertEqual(least_change(SCHEMA, [], switches, [wish()]), (4,))
        self.assertEqual(minimal_changes(SCHEMA, [], switches, [wish()]), [(4,), (0, 1), (2, 3)])
        self.assertEqual(least_change(SCHEMA, [], switches[:4], [wish()]), (0, 1))
        self.assertEqual(least_change(SCHEMA, [], switches[3::-1], [wish()]), (0, 1))
        self.assertEqual(minimal_changes(SCHEMA, [TEAMS], switches[:3], [wish()]), [(0,)])

    def test_changes_of_which_a_much_smaller_part_is_enough(self):
        # Both rows or none of them: neither one alone.
        either, both = ("either", (("same", "a"), ("same", "b"))), ("both", (("same", "a"), ("same", "b")))
        schema = (("user", ()), ("doc", (("a", ONE), ("b", ONE), ("c", ONE), ("d", ONE), ("same", (
            "either", (both, ("but", ("direct", (("all", "user"),)), either)))))))
        state = [(DOC, "same", ("all", "user"))]
        rows = [view(ANN, DOC, name) for name in "abcd"]
        wishes = [wish(relation="same")]
        self.assertEqual(minimal_changes(schema, state, rows[:2], wishes), [()])
        self.assertEqual(minimal_changes(schema, state, rows, wishes), [()])
        self.assertEqual(minimal_changes(schema, state + rows[:1], rows, wishes), [(0,), (1,)])
        both_rows = [wish(relation="c"), wish(relation="same")]
        self.assertEqual(minimal_changes(schema, state, rows[::-1], both_rows), [(1,)])
        self.assertEqual(minimal_changes(schema, [], rows, wishes), [(0, 1)])
        # All three or none of them.
        either, both = ("either", (("same", "a"), ("same", "b"), ("same", "c"))), ("both", (
            ("same", "a"), ("same", "b"), ("same", "c")))
        schema = schema[:1] + (("doc", schema[1][1][:4] + (("same", ("either", (both, (
            "but", ("direct", (("all", "user"),)), either)))),)),)
        self.assertEqual(minimal_changes(schema, state, rows, wishes), [()])
        self.assertEqual(minimal_changes(schema, [], rows, wishes), [(0, 1, 2)])

    def test_wishes_that_the_state_meets_and_that_nothing_meets(self):
        self.assertEqual(least_change(SCHEMA, [EVERYONE], [EVERYONE], [wish()]), ())
        self.assertEqual(minimal_changes(SCHEMA, [EVERYONE], [EVERYONE], [wish()]), [()])
        self.assertEqual(least_change(SCHEMA, [], [], [wish(wanted=False)]), ())
        self.assertIsNone(least_change(SCHEMA, [], [], [wish()]))
        self.assertEqual(minimal_changes(SCHEMA, [], [], [wish()]), [])
        self.assertIsNone(least_change(SCHEMA, [BAN], [EVERYONE, view(ANN)], [wish()]))
        self.assertIsNone(least_change(SCHEMA, [], [EVERYONE], [wish(thing=("doc", 99))]))

    def test_contradicting_wishes(self):
        both = [wish(), wish(wanted=False)]
        self.assertIsNone(least_change(SCHEMA, [], [EVERYONE], both))
        self.assertEqual(why_not(SCHEMA, [], [EVERYONE], both), (0, 1))
        self.assertEqual(least_change(SCHEMA, [EVERYONE], [BAN], [wish(wanted=False), wish(BOB)]), (0,))

    def test_unnamed_users(self):
        self.assertEqual(least_change(SCHEMA, [], [view(ANN), EVERYONE], [wish(("user", 10 ** 20))]), (1,))
        self.assertEqual(least_change(SCHEMA, [], [EVERYONE, BOTS], [wish(("bot", 1)), wish(("user", 1), False)]), (1,))

    def test_what_are_no_wishes(self):
        wrong = [[], (), [wish(wanted=1)], [wish(wanted=0)], [wish(wanted=None)], [wish(("user", True))], [wish(DOC)],
                 [wish(thing=ANN)], [wish(relation="up")], [wish(relation="member")], [wish()[:3]], [wish() + (1,)],
                 [list(wish())], [wish(), wish()], {wish()}, {wish(): 1}, wish(), None, "wishes",
                 [wish(("user", k)) for k in range(9)], [wish(thing=("doc", False))], [wish(relation=["see"])]]
        for wishes in wrong + [[odd] for odd in odd_values()] + [odd_values()]:
            for function in (least_change, minimal_changes, why_not):
                self.assertEqual(told(function, SCHEMA, [], [], wishes), ("Mismatch", "wishes"), wishes)
            for function in (quiet_change, judge_change):
                self.assertEqual(told(function, SCHEMA, [], [], wishes, None), ("Mismatch", "wishes"))

    def test_true_and_one_are_not_the_same(self):
        self.assertEqual(told(least_change, SCHEMA, [], [], [wish(), wish(wanted=1)]), ("Mismatch", "wishes"))
        self.assertEqual(told(least_change, SCHEMA, [], [view(("user", 1))], [wish(("user", True))]), ("Mismatch", "wishes"))


class EffectsTest(unittest.TestCase):
    def test_named_users_and_kinds(self):
        switches = [EVERYONE, view(BOB), BAN]
        self.assertEqual(effects(SCHEMA, [BAN], switches, (0,), SEE),
                         [(DOC, "see", BOB, "gained"), (DOC, "see", "user", "gained")])
        self.assertEqual(effects(SCHEMA, [BAN], switches, (0, 1), SEE),
                         [(DOC, "see", BOB, "gained"), (DOC, "see", "user", "gained")])
        self.assertEqual(effects(SCHEMA, [BAN, EVERYONE], switches, (0, 1), SEE), [(DOC, "see", "user", "lost")])
        self.assertEqual(effects(SCHEMA, [BAN, EVERYONE], switches, (2,), SEE), [(DOC, "see", ANN, "gained")])
        self.assertEqual(effects(SCHEMA, [EVERYONE], [EVERYONE], (0,), SEE), [(DOC, "see", "user", "lost")])
        self.assertEqual(effects(SCHEMA, [EVERYONE], switches, (), SEE), [])

    def test_users_that_only_other_switches_name(self):
        switches = [EVERYONE, view(("user", 9), FAR), BOTS]
        self.assertEqual(effects(SCHEMA, [], switches, (0,), [("doc", "view")]),
                         [(DOC, "view", ("user", 9), "gained"), (DOC, "view", "user", "gained")])
        self.assertEqual(effects(SCHEMA, [], switches[:1], (0,), [("doc", "view")]), [(DOC, "view", "user", "gained")])
        self.assertEqual(effects(SCHEMA, [], switches, (0, 2), [("doc", "view")]),
                         [(DOC, "view", ("user", 9), "gained"), (DOC, "view", "bot", "gained"),
                          (DOC, "view", "user", "gained")])

    def test_the_order_of_concerns_and_things(self):
        state = [(("doc", k), "up", ("one", DOC)) for k in (9, 8, 10)]
        found = effects(SCHEMA, state, [view(ANN)], (0,), [("doc", "view"), ("team", "member"), ("doc", "see")])
        self.assertEqual(found, [(DOC, "view", ANN, "gained")] + [
            (("doc", k), "see", ANN, "gained") for k in (7, 8, 9, 10)])
        self.assertEqual(effects(SCHEMA, state, [view(ANN)], (0,), [("doc", "ban")]), [])


class QuietChangeTest(unittest.TestCase):
    def test_the_fewest_effects_and_then_the_least_change(self):
        switches = [EVERYONE, LINK, view(ANN, FAR), view(ANN)]
        self.assertEqual(quiet_change(SCHEMA, [], switches, [wish()], SEE), ((3,), 0))
        self.assertEqual(quiet_change(SCHEMA, [], switches[:3], [wish()], SEE), ((0,), 1))
        self.assertEqual(quiet_change(SCHEMA, [], switches[1:3], [wish()], SEE), ((0, 1), 1))
        self.assertEqual(quiet_change(SCHEMA, [], switches[1:3], [wish(), wish(thing=FAR)], SEE), ((0, 1), 0))
        # Two effects against one of a greater change.
        self.assertEqual(quiet_change(SCHEMA, [view(BOB, FAR)], switches[:3], [wish()], SEE), ((0,), 2))
        self.assertEqual(quiet_change(SCHEMA, [view(("user", k), FAR, "ban") for k in (4, 5, 6)], switches[:3],
                                      [wish()], SEE), ((1, 2), 1))
        self.assertIsNone(quiet_change(SCHEMA, [BAN], switches, [wish()], SEE))
        self.assertEqual(quiet_change(SCHEMA, [EVERYONE], switches, [wish()], SEE), ((), 0))

    def test_users_that_only_wishes_name_count_as_named(self):
        wishes = [wish(), wish(BOB, False, FAR)]
        # Ann and Bob and all others: of these only Ann's right is wished for.
        self.assertEqual(quiet_change(SCHEMA, [], [EVERYONE], wishes, SEE), ((0,), 2))
        self.assertEqual(quiet_change(SCHEMA, [], [EVERYONE], [wish()], SEE), ((0,), 1))
        self.assertEqual(quiet_change(SCHEMA, [], [EVERYONE], [wish(), wish(BOB)], SEE), ((0,), 1))
        # Here the effects are on another right than the wish.
        self.assertEqual(quiet_change(SCHEMA, [], [EVERYONE], [wish()], [("doc", "view")]), ((0,), 2))
        self.assertEqual(quiet_change(SCHEMA, [], [EVERYONE], [wish()], [("doc", "view"), ("doc", "see")]), ((0,), 3))

    def test_many_effects(self):
        state = [(("doc", k + 100), "up", ("one", DOC)) for k in range(70)]
        state += [view(("user", k + 10), FAR) for k in range(9)]
        # 71 documents, of which one is wished for by Ann; the others are seen by Ann, nine users, and all others.
        self.assertEqual(quiet_change(SCHEMA, state, [EVERYONE], [wish()], SEE), ((0,), 71 * 11 - 1))
        self.assertEqual(quiet_change(SCHEMA, state, [EVERYONE, view(ANN)], [wish()], SEE), ((1,), 70))

    def test_errors_in_their_order(self):
        self.assertEqual(told(quiet_change, SCHEMA, [], [], [wish()], []), ("Mismatch", "concerns"))
        self.assertEqual(told(quiet_change, SCHEMA, [], [], [], []), ("Mismatch", "wishes"))
        self.assertEqual(told(effects, SCHEMA, [], [], (), []), ("Mismatch", "concerns"))


class WhyNotTest(unittest.TestCase):
    def test_as_few_wishes_as_possible(self):
        self.assertIsNone(why_not(SCHEMA, [], [EVERYONE], [wish(), wish(BOB)]))
        self.assertEqual(why_not(SCHEMA, [], [EVERYONE], [wish(), wish(BOB, False)]), (0, 1))
        self.assertEqual(why_not(SCHEMA, [], [EVERYONE], [wish(), wish(BOB, False), wish(thing=FAR)]), (2,))
        self.assertEqual(why_not(SCHEMA, [], [], [wish(BOB, False), wish(), wish(BOB)]), (1,))

    def test_three_that_go_two_by_two(self):
        both = ("both", (("same", "a"), ("same", "b")))
        schema = (("user", ()), ("doc", (("a", ONE), ("b", ONE), ("c", ("but", ("either", (
            ("same", "a"), ("same", "b"))), both)))))
        thing, row = ("doc", 1), (("doc", 1), "a", ("one", ANN))
        switches = [row, (thing, "b", ("one", ANN))]
        wishes = [(thing, name, ANN, True) for name in ("c", "a", "b")]
        self.assertEqual(why_not(schema, [], switches, wishes), (0, 1, 2))
        self.assertEqual(why_not(schema, [], switches, wishes + [(thing, "a", ANN, False)]), (1, 3))
        self.assertEqual(why_not(schema, [], switches, wishes[::-1] + [(thing, "b", ANN, False)]), (0, 3))


class JudgeChangeTest(unittest.TestCase):
    def test_each_word(self):
        switches = [EVERYONE, view(ANN)]
        for change, word in (((0,), "right"), ((1,), "more"), ((0, 1), "more"), ((), "unmet"), (None, "none"), ((2,), "form"),
                             ([0], "form"), ((False,), "form"), ((1, 0), "form"), ((0, 0), "form")):
            self.assertEqual(judge_change(SCHEMA, [], switches, [wish()], change), word)
        for change, word in ((None, "right"), ((), "unmet"), ((0,), "unmet"), ((0, 1), "unmet"), ("", "form")):
            self.assertEqual(judge_change(SCHEMA, [BAN], switches, [wish()], change), word)
        self.assertEqual(judge_change(SCHEMA, [], [], [wish(wanted=False)], ()), "right")

    def test_any_object(self):
        for odd in odd_values() + [deep_tuple(), deep_list()]:
            word = judge_change(SCHEMA, [], [EVERYONE], [wish()], odd)
            self.assertEqual(word, "unmet" if odd == () else "none" if odd is None else "form")


if __name__ == "__main__":
    unittest.main()
