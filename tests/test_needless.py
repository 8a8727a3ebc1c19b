"""[7.1] agree, difference, [7.2] spare_rows, needed_for, [7.3] thinned, is_thin, [7.4] greatest_sets, count_sets."""

import unittest

from relatedrights.needless import (
    agree, count_sets, difference, greatest_sets, is_thin, needed_for, spare_rows, thinned,
)
from tests.samples import ANY, ONE, deep_list, deep_tuple, odd_values, told

SCHEMA = (("user", ()), ("bot", ()), ("doc", (
    ("up", ("links", ("doc",))),
    ("in", ("direct", (("one", "user"), ("all", "user"), ("one", "bot"), ("all", "bot"), ))),
    ("out", ANY),
    ("read", ("but", ("either", (("same", "in"), ("through", "up", "read"))), ("same", "out"))),
)), ("team", (("member", ("direct", (("one", "user"), ("who", "team", "member")))),)))
DOC, FAR, TEAM = ("doc", 1), ("doc", 2), ("team", 1)
READ, IN = [("doc", "read")], [("doc", "in")]


def one(user, thing=DOC, relation="in"):
    return (thing, relation, ("one", user))


def everyone(thing=DOC, relation="in", kind="user"):
    return (thing, relation, ("all", kind))


ANN, BOB, BOT = ("user", 5), ("user", 6), ("bot", 0)


class ExampleTest(unittest.TestCase):
    def test_the_example_of_the_document(self):
        d = ("direct", (("one", "user"),))
        schema = (("user", ()), ("doc", (("in", d), ("out", d), ("read", ("but", ("same", "in"), ("same", "out"))))))
        state = [(("doc", 1), "out", ("one", ("user", 5))), (("doc", 1), "in", ("one", ("user", 5)))]
        c = [("doc", "read")]
        self.assertEqual(
            [thinned(schema, state, c) == state[:1], is_thin(schema, state[:1], c),
             greatest_sets(schema, state, c, state), count_sets(schema, state, c, state)],
            [True, False, [(0, 1)], 3])


class DifferenceTest(unittest.TestCase):
    def test_lost_and_gained(self):
        self.assertEqual(difference(SCHEMA, [one(ANN)], [], READ), (DOC, "read", ANN, "lost"))
        self.assertEqual(difference(SCHEMA, [], [one(ANN)], READ), (DOC, "read", ANN, "gained"))
        self.assertEqual(difference(SCHEMA, [one(ANN)], [one(ANN), one(ANN, DOC, "out")], READ), (DOC, "read", ANN, "lost"))
        self.assertIsNone(difference(SCHEMA, [one(ANN), one(BOB)], (one(BOB), one(ANN), one(BOB)), READ))
        self.assertIs(agree(SCHEMA, [], [], READ), True)
        self.assertIs(agree(SCHEMA, [one(ANN)], [], READ), False)

    def test_the_first_concern_the_least_thing_and_the_least_user(self):
        state = [one(BOB, FAR), one(BOB), one(ANN), one(BOT)]
        self.assertEqual(difference(SCHEMA, state, [], READ + IN), (DOC, "read", BOT, "lost"))
        self.assertEqual(difference(SCHEMA, state, [], IN + READ), (DOC, "in", BOT, "lost"))
        self.assertEqual(difference(SCHEMA, state, [one(BOT)], IN), (DOC, "in", ANN, "lost"))
        self.assertEqual(difference(SCHEMA, state, [one(BOT), one(ANN), one(BOB)], IN), (FAR, "in", BOB, "lost"))
        # A concern that comes first, though it differs at a greater thing.
        first = [one(ANN, FAR, "out"), one(ANN)]
        self.assertEqual(difference(SCHEMA, first, [], [("doc", "out"), ("doc", "in")]), (FAR, "out", ANN, "lost"))

    def test_users_that_no_row_names(self):
        self.assertEqual(difference(SCHEMA, [everyone()], [], READ), (DOC, "read", ("user", 0), "lost"))
        named = [one(("user", k), FAR, "out") for k in (0, 1, 3)]
        self.assertEqual(difference(SCHEMA, named + [everyone()], named, READ), (DOC, "read", ("user", 0), "lost"))
        kept = [one(("user", k)) for k in (0, 1, 3)]
        self.assertEqual(difference(SCHEMA, kept + [everyone()], kept, IN), (DOC, "in", ("user", 2), "lost"))
        # Those that the other state alone names count as well.
        self.assertEqual(difference(SCHEMA, kept, [everyone()], IN), (DOC, "in", ("user", 2), "gained"))
        self.assertEqual(difference(SCHEMA, [everyone()], kept + [one(("user", 2))], IN), (DOC, "in", ("user", 4), "lost"))
        self.assertEqual(difference(SCHEMA, [everyone(kind="bot")], [everyone()], IN), (DOC, "in", ("bot", 0), "lost"))
        self.assertIsNone(difference(SCHEMA, [everyone()], [everyone(), one(ANN), one(("user", 10 ** 30))], IN))

    def test_things_that_one_state_names(self):
        links = [(DOC, "up", ("one", FAR)), one(ANN, FAR)]
        self.assertEqual(difference(SCHEMA, links, links[1:], READ), (DOC, "read", ANN, "lost"))
        self.assertIsNone(difference(SCHEMA, links, links[1:], IN))
        ring = [(TEAM, "member", ("who", ("team", 2), "member")), (("team", 2), "member", ("who", TEAM, "member"))]
        self.assertIsNone(difference(SCHEMA, ring, [], [("team", "member"), ("doc", "read")]))

    def test_all_concerns_at_once(self):
        every = [("team", "member"), ("doc", "read"), ("doc", "out"), ("doc", "in")]
        self.assertEqual(difference(SCHEMA, [one(ANN)], [], every), (DOC, "read", ANN, "lost"))
        self.assertIsNone(difference(SCHEMA, [(DOC, "up", ("one", DOC))], [], tuple(every)))


class SpareRowsTest(unittest.TestCase):
    def test_rows_in_the_order_in_which_they_first_stand(self):
        state = [one(BOB), everyone(), one(ANN), one(BOB), everyone(), (DOC, "up", ("one", FAR))]
        self.assertEqual(spare_rows(SCHEMA, state, READ), [one(BOB), one(ANN), (DOC, "up", ("one", FAR))])
        self.assertEqual(spare_rows(SCHEMA, tuple(state), READ), [one(BOB), one(ANN), (DOC, "up", ("one", FAR))])
        self.assertEqual(spare_rows(SCHEMA, [], READ), [])

    def test_a_row_that_stands_twice_goes_wherever_it_stands(self):
        self.assertEqual(spare_rows(SCHEMA, [one(ANN), one(ANN)], READ), [])
        self.assertEqual(needed_for(SCHEMA, [one(ANN), one(ANN)], READ, one(ANN)), (DOC, "read", ANN, "lost"))
        self.assertEqual(thinned(SCHEMA, [one(ANN), one(ANN)], READ), [one(ANN)])

    def test_under_a_but(self):
        state = [one(ANN), one(ANN, DOC, "out")]
        self.assertEqual(spare_rows(SCHEMA, state, READ), [one(ANN)])
        self.assertEqual(needed_for(SCHEMA, state, READ, state[1]), (DOC, "read", ANN, "gained"))
        self.assertIsNone(needed_for(SCHEMA, state, READ, state[0]))

    def test_what_is_no_row_of_the_state(self):
        state = [one(("user", 1)), one(ANN)]
        for odd in odd_values() + [deep_tuple(), deep_list(), one(BOB), list(one(ANN)), one(("user", True)),
                                   (("doc", True), "in", ("one", ANN)), (DOC, "read", ("one", ANN)), state]:
            self.assertEqual(told(needed_for, SCHEMA, state, READ, odd), ("Mismatch", "row"))
        self.assertEqual(told(needed_for, SCHEMA, [], READ, one(ANN)), ("Mismatch", "row"))

    def test_100_different_rows_and_101(self):
        rows = [one(("user", k)) for k in range(101)]
        self.assertEqual(spare_rows(SCHEMA, rows[:100] * 20, READ), [])
        self.assertEqual(thinned(SCHEMA, rows[:100] * 20, READ), rows[:100])
        self.assertIs(is_thin(SCHEMA, rows[:100] * 20, READ), True)
        self.assertEqual(len(spare_rows(SCHEMA, rows[:99] + [everyone()], READ)), 99)
        self.assertEqual(thinned(SCHEMA, rows[:99] + [everyone()], READ), [everyone()])
        for function in (spare_rows, thinned, is_thin):
            self.assertEqual(told(function, SCHEMA, rows, READ), ("TooLarge", 100))
            self.assertEqual(told(function, SCHEMA, rows, READ * 2), ("Mismatch", "concerns"))
            self.assertEqual(told(function, SCHEMA, rows + [0], READ), ("InvalidState", 101))
        self.assertIsNone(needed_for(SCHEMA, rows + [everyone()], READ, rows[7]))
        self.assertEqual(difference(SCHEMA, rows, [], READ), (DOC, "read", ("user", 0), "lost"))


class ThinnedTest(unittest.TestCase):
    def test_rows_that_can_go_one_in_the_place_of_the_other(self):
        state = [everyone(), one(ANN), (DOC, "up", ("one", FAR)), everyone(FAR)]
        self.assertEqual(thinned(SCHEMA, state, READ), [(DOC, "up", ("one", FAR)), everyone(FAR)])
        self.assertEqual(thinned(SCHEMA, state[::-1], READ), [everyone(FAR), everyone()])
        self.assertEqual(thinned(SCHEMA, [], READ), [])

    def test_rows_that_are_spare_only_behind_others(self):
        # Nobody may read: first the one who is kept out is not spare, then there is nobody to keep out.
        state = [one(ANN, DOC, "out"), one(BOB), one(ANN)]
        self.assertEqual(thinned(SCHEMA, state, READ), [one(ANN, DOC, "out"), one(BOB)])
        self.assertIs(is_thin(SCHEMA, [one(ANN, DOC, "out"), one(BOB)], READ), False)
        self.assertEqual(thinned(SCHEMA, state[::-1], READ), [one(BOB)])
        rows = [one(ANN, DOC, "out"), one(ANN)]
        self.assertEqual(thinned(SCHEMA, rows[::-1], READ), [])
        self.assertIs(is_thin(SCHEMA, [], READ), True)

    def test_long_runs_of_rows(self):
        # Every third row is needed, in the order of the rows.
        state = []
        for k in range(33):
            state += [one(("user", k)), one(("user", k), ("doc", 3), "out"), one(("user", k), FAR, "out")]
        self.assertEqual(thinned(SCHEMA, state, READ), state[::3])
        chain = [(("team", k), "member", ("who", ("team", k + 1), "member")) for k in range(99)]
        self.assertEqual(thinned(SCHEMA, chain, [("team", "member")]), [])
        full = chain + [(("team", 99), "member", ("one", ANN))]
        self.assertEqual(thinned(SCHEMA, full, [("team", "member")]), full)


class SetsTest(unittest.TestCase):
    def test_greatest_sets_in_their_order(self):
        two = [everyone(), everyone(FAR), (DOC, "up", ("one", FAR)), one(ANN)]
        self.assertEqual(greatest_sets(SCHEMA, two, READ, two), [(0, 3), (2, 3)])
        self.assertEqual(count_sets(SCHEMA, two, READ, two), 6)
        self.assertEqual(greatest_sets(SCHEMA, two, READ, [two[3], two[0]]), [(0, 1)])
        # One of three is enough.
        pair = [one(ANN, ("team", k), "member") for k in (1, 2, 3)] + [
            (("team", 4), "member", ("who", ("team", k), "member")) for k in (1, 2, 3)]
        team = [("team", "member")]
        self.assertEqual(greatest_sets(SCHEMA, pair, team, pair[3:]), [(0, 1), (0, 2), (1, 2)])
        self.assertEqual(count_sets(SCHEMA, pair, team, pair[3:]), 7)
        self.assertEqual(greatest_sets(SCHEMA, pair, team, pair[:3]), [()])

    def test_a_set_that_can_go_though_its_parts_can_not(self):
        state = [one(ANN, DOC, "out"), one(ANN), one(BOB)]
        self.assertEqual(greatest_sets(SCHEMA, state, READ, state[:2]), [(0, 1)])
        self.assertEqual(count_sets(SCHEMA, state, READ, state[:2]), 3)
        self.assertEqual(greatest_sets(SCHEMA, state, READ, state[:1]), [()])
        self.assertEqual(greatest_sets(SCHEMA, state, READ, state[::-1]), [(1, 2)])

    def test_sets_that_can_go_only_together(self):
        # Both rows or none of them: neither one alone.
        either, both = ("either", (("same", "a"), ("same", "b"))), ("both", (("same", "a"), ("same", "b")))
        schema = (("user", ()), ("doc", (("a", ONE), ("b", ONE), ("c", ONE), ("same", (
            "either", (both, ("but", ("direct", (("all", "user"),)), either)))))))
        state = [one(ANN, DOC, name) for name in "abc"] + [(DOC, "same", ("all", "user"))]
        self.assertEqual(greatest_sets(schema, state, [("doc", "same")], state[:2]), [(0, 1)])
        self.assertEqual(count_sets(schema, state, [("doc", "same")], state[:2]), 2)
        self.assertEqual(greatest_sets(schema, state, [("doc", "same")], state[:3]), [(0, 1, 2)])
        self.assertEqual(count_sets(schema, state, [("doc", "same")], state[:3]), 4)
        self.assertEqual(greatest_sets(schema, state, [("doc", "same"), ("doc", "c")], state[:3]), [(0, 1)])
        # All three or none of them.
        either, both = ("either", (("same", "a"), ("same", "b"), ("same", "c"))), ("both", (
            ("same", "a"), ("same", "b"), ("same", "c")))
        schema = schema[:1] + (("doc", schema[1][1][:3] + (("same", ("either", (both, (
            "but", ("direct", (("all", "user"),)), either)))),)),)
        self.assertEqual(greatest_sets(schema, state, [("doc", "same")], state[:3]), [(0, 1, 2)])
        self.assertEqual(count_sets(schema, state, [("doc", "same")], state[:3]), 2)

    def test_no_rows(self):
        self.assertEqual(greatest_sets(SCHEMA, [one(ANN)], READ, []), [()])
        self.assertEqual(count_sets(SCHEMA, [one(ANN)], READ, ()), 1)
        self.assertEqual(greatest_sets(SCHEMA, [], READ, ()), [()])

    def test_10_rows_and_11(self):
        state = [one(("user", k)) for k in range(11)] + [everyone()]
        self.assertEqual(count_sets(SCHEMA, state * 3, READ, state[:10]), 1024)
        self.assertEqual(greatest_sets(SCHEMA, state, READ, tuple(state[:10])), [tuple(range(10))])
        self.assertEqual(count_sets(SCHEMA, state, READ, state[2:]), 512)
        for function in (greatest_sets, count_sets):
            self.assertEqual(told(function, SCHEMA, state, READ, state[:11]), ("TooLarge", 10))
            self.assertEqual(told(function, SCHEMA, state, READ, state[:11] + state[:1]), ("Mismatch", "rows"))
            self.assertEqual(told(function, SCHEMA, state, READ, state[:11] + [0]), ("Mismatch", "rows"))
            self.assertEqual(told(function, SCHEMA, state, [], state[:11]), ("Mismatch", "concerns"))

    def test_what_is_no_list_of_rows_of_the_state(self):
        state = [one(("user", 1)), one(ANN)]
        for rows in ([one(BOB)], [one(ANN)] * 2, [one(("user", True))], [list(one(ANN))], {one(ANN): 1}, {one(ANN)},
                     one(ANN), [state], "rows", None):
            self.assertEqual(told(greatest_sets, SCHEMA, state, READ, rows), ("Mismatch", "rows"))
            self.assertEqual(told(count_sets, SCHEMA, state, READ, rows), ("Mismatch", "rows"))
        for odd in odd_values() + [deep_tuple(), deep_list()]:
            self.assertEqual(told(count_sets, SCHEMA, state, READ, [one(ANN), odd]), ("Mismatch", "rows"))


class ConcernsTest(unittest.TestCase):
    def test_36_concerns_and_37(self):
        names = ("aa", "bb", "cc", "dd", "ee", "ff")
        schema = tuple((kind, tuple((name, ("direct", (("who", "aa", "aa"),))) for name in names)) for kind in names)
        concerns = [(kind, name) for kind in names for name in names]
        state = [(("aa", 1), "aa", ("who", ("aa", 2), "aa"))]
        self.assertIs(agree(schema, state, [], concerns), True)
        self.assertEqual(spare_rows(schema, state, tuple(concerns)), state)
        for wrong in (concerns + concerns[:1], concerns[:35] + concerns[:1], [], (), concerns[:1] * 2):
            self.assertEqual(told(agree, schema, state, [], wrong), ("Mismatch", "concerns"))

    def test_what_are_no_concerns(self):
        wrong = [[("user", "in")], [("doc", "up")], [("doc", "none")], [("none", "in")], [["doc", "in"]], [("doc",)],
                 [("doc", "in", "in")], [("team", "in")], [(["doc"], "in")], [("doc", ["in"])], ("doc", "in"), {},
                 {("doc", "in"): True}, {("doc", "in")}, "concerns", None, [("doc", "in"), 5], [(True, False)]]
        for concerns in wrong + [[odd] for odd in odd_values()]:
            for function, more in ((agree, [[]]), (difference, [[]]), (spare_rows, []), (thinned, []), (is_thin, [])):
                self.assertEqual(told(function, SCHEMA, [], *more, concerns), ("Mismatch", "concerns"))
            for function in (needed_for, greatest_sets, count_sets):
                self.assertEqual(told(function, SCHEMA, [], concerns, None), ("Mismatch", "concerns"))

    def test_both_states_are_checked(self):
        self.assertEqual(told(difference, SCHEMA, [one(ANN)], [one(ANN), 5], []), ("InvalidState", 1))
        self.assertEqual(told(agree, SCHEMA, [5], [one(ANN), 5], []), ("InvalidState", 0))
        self.assertEqual(told(agree, SCHEMA, [], {}, []), ("InvalidState", -1))
        self.assertEqual(told(agree, SCHEMA, [], [one(ANN)] * 2001, READ), ("InvalidState", -1))
        self.assertIs(agree(SCHEMA, [one(ANN)], [one(ANN)] * 2000, READ), True)


if __name__ == "__main__":
    unittest.main()
