"""[3.1] check_within, [3.2] depth_needed, [3.3] never_told, [3.4] calls_within, [3.5] rank."""

import unittest

from relatedrights.ranks import calls_within, check_within, depth_needed, never_told, rank
from relatedrights.states import check
from tests.samples import GREAT, ONE, told

DOC, ANN, BOB = ("doc", 1), ("user", 1), ("user", 2)
SEE = (("user", ()), ("doc", (("see", ("direct", (("one", "user"), ("all", "user"), ("who", "doc", "see")))),)))


def schema_with(*entries):
    return (("user", ()), ("bot", ()), ("doc", entries))


def gives(user, number=1, relation="see"):
    return (("doc", number), relation, ("one", user))


def asks(number, other, relation="see"):
    return (("doc", number), relation, ("who", ("doc", other), relation))


def words(schema, state, relation, user, depths=5, thing=DOC):
    return [check_within(schema, state, thing, relation, user, depth) for depth in range(depths)]


class ExampleTest(unittest.TestCase):
    def test_the_example_of_the_document(self):
        schema = (("user", ()), ("doc", (("see", ("direct", (("one", "user"), ("who", "doc", "see")))),)))
        one, two, ann = ("doc", 1), ("doc", 2), ("user", 5)
        state = [(one, "see", ("who", two, "see")), (two, "see", ("who", one, "see")), (two, "see", ("one", ann))]
        found = [check_within(schema, state, one, "see", ann, depth) for depth in (1, 2)]
        found += [never_told(schema, state, ("user", 6)), calls_within(schema, state, one, "see", 3)]
        found += [rank(schema, state, one, "see", ann)]
        self.assertEqual(found, ["deep", "yes", [(("doc", 1), "see"), (("doc", 2), "see")], 4, 2])


class ValuesTest(unittest.TestCase):
    def test_nothing_is_told_at_depth_0(self):
        for state in ([], [gives(ANN)], [(DOC, "see", ("all", "user"))]):
            self.assertEqual(check_within(SEE, state, DOC, "see", ANN, 0), "deep")

    def test_rows_are_told_at_depth_1(self):
        self.assertEqual(words(SEE, [gives(ANN)], "see", ANN, 3), ["deep", "yes", "yes"])
        self.assertEqual(words(SEE, [gives(ANN)], "see", BOB, 3), ["deep", "no", "no"])
        self.assertEqual(words(SEE, [(DOC, "see", ("all", "user"))], "see", BOB, 3), ["deep", "yes", "yes"])
        self.assertEqual(words(SEE, [gives(ANN), asks(1, 1)], "see", ANN, 3), ["deep", "yes", "yes"])

    def test_one_step_more_for_each_right_that_is_read(self):
        state = [asks(1, 2), asks(2, 3), gives(ANN, 3)]
        self.assertEqual(words(SEE, state, "see", ANN), ["deep", "deep", "deep", "yes", "yes"])
        self.assertEqual(words(SEE, state, "see", BOB), ["deep", "deep", "deep", "no", "no"])
        self.assertEqual(words(SEE, state + [asks(1, 9)], "see", BOB), ["deep", "deep", "deep", "no", "no"])
        self.assertEqual(words(SEE, state + [asks(1, 4), gives(ANN, 4)], "see", ANN, 4), ["deep", "deep", "yes", "yes"])

    def test_same_and_through(self):
        schema = schema_with(("up", ("links", ("doc",))), ("own", ONE), ("see", ("same", "own")),
                             ("far", ("through", "up", "own")))
        links = [(DOC, "up", ("one", ("doc", 2))), (DOC, "up", ("one", ("doc", 3)))]
        self.assertEqual(words(schema, [gives(ANN, 1, "own")], "see", ANN, 3), ["deep", "deep", "yes"])
        self.assertEqual(words(schema, [], "see", ANN, 3), ["deep", "deep", "no"])
        self.assertEqual(words(schema, [], "far", ANN, 3), ["deep", "no", "no"])
        self.assertEqual(words(schema, links, "far", ANN, 3), ["deep", "deep", "no"])
        self.assertEqual(words(schema, links + [gives(ANN, 3, "own")], "far", ANN, 3), ["deep", "deep", "yes"])

    def test_either_both_and_but_of_all_values(self):
        entries = [("yes", ("direct", (("one", "user"),))), ("no", ("direct", (("one", "bot"),))),
                   ("deep", ("same", "deep"))]
        expected = {
            "either": ("yes yes yes", "yes no deep", "yes deep deep"),
            "both": ("yes no deep", "no no no", "deep no deep"),
            "but": ("no yes deep", "no no no", "no deep deep"),
        }
        state = [gives(ANN, 1, "yes")]
        for word, rows in expected.items():
            for one, row in zip(("yes", "no", "deep"), rows):
                for other, value in zip(("yes", "no", "deep"), row.split()):
                    parts = (("same", one), ("same", other))
                    rule = (word,) + parts if word == "but" else (word, parts)
                    schema = schema_with(*entries, ("all", rule))
                    self.assertEqual(check_within(schema, state, DOC, "all", ANN, 7), value, (word, one, other))

    def test_rings_stay_deep_for_ever(self):
        ring = [asks(1, 2), asks(2, 1)]
        for depth in (0, 1, 2, 1000, 10 ** 30, GREAT):
            self.assertEqual(check_within(SEE, ring, DOC, "see", ANN, depth), "deep")
        self.assertIsNone(depth_needed(SEE, ring, DOC, "see", ANN))
        self.assertIs(check(SEE, ring, DOC, "see", ANN), False)

    def test_a_but_over_a_ring_is_had_and_never_told(self):
        schema = schema_with(("own", ONE), ("lost", ("same", "lost")), ("see", ("but", ("same", "own"), ("same", "lost"))))
        state = [gives(ANN, 1, "own")]
        self.assertIs(check(schema, state, DOC, "see", ANN), True)
        self.assertEqual(check_within(schema, state, DOC, "see", ANN, GREAT), "deep")
        self.assertEqual(check_within(schema, state, DOC, "see", BOB, 2), "no")
        self.assertEqual(rank(schema, state, DOC, "see", ANN), 2)
        self.assertEqual(never_told(schema, state, ANN), [(DOC, "lost"), (DOC, "see")])
        self.assertEqual(never_told(schema, state, BOB), [(DOC, "lost")])

    def test_things_and_users_that_no_row_names(self):
        self.assertEqual(words(SEE, [gives(ANN)], "see", ANN, 3, ("doc", 10 ** 40)), ["deep", "no", "no"])
        self.assertEqual(words(SEE, [gives(ANN)], "see", ("user", 10 ** 40), 3), ["deep", "no", "no"])
        schema = schema_with(("see", ("same", "see")))
        self.assertEqual(words(schema, [], "see", ANN, 3), ["deep", "deep", "deep"])

    def test_wrong_depths(self):
        for depth in (-1, -GREAT, True, False, None, "1", [1], (1,)):
            self.assertEqual(told(check_within, SEE, [], DOC, "see", ANN, depth), ("InvalidNumber", "depth"))

    def test_never_told_is_in_order(self):
        schema = schema_with(("zoo", ("same", "ape")), ("own", ONE), ("ape", ("same", "zoo")))
        state = [gives(ANN, 2, "own"), gives(ANN, 10, "own"), gives(BOB, 1, "own")]
        expected = [(("doc", k), name) for k in (1, 2, 10) for name in ("zoo", "ape")]
        self.assertEqual(never_told(schema, state, ANN), expected)
        self.assertEqual(never_told(schema, [], ANN), [])

    def test_long_chains_and_rings(self):
        for many in (300, 900):
            state = [asks(k, k + 1) for k in range(1, many)] + [gives(ANN, many)]
            self.assertEqual(depth_needed(SEE, state, DOC, "see", ANN), many)
            self.assertEqual(depth_needed(SEE, state, DOC, "see", BOB), many)
            self.assertEqual(check_within(SEE, state, DOC, "see", ANN, many - 1), "deep")
            self.assertEqual(check_within(SEE, state, DOC, "see", ANN, many), "yes")
            self.assertEqual(rank(SEE, state, DOC, "see", ANN), many)
            self.assertEqual(never_told(SEE, state, BOB), [])
            ring = state + [asks(many, 1)]
            self.assertEqual(depth_needed(SEE, ring, DOC, "see", ANN), many)
            self.assertIsNone(depth_needed(SEE, ring, DOC, "see", BOB))
            self.assertIsNone(rank(SEE, ring, DOC, "see", BOB))
            self.assertEqual(len(never_told(SEE, ring, BOB)), many)


    def test_hundreds_of_documents_each_linked_to_the_next_one(self):
        schema = schema_with(("up", ("links", ("doc",))), ("own", ONE), ("ban", ONE),
                             ("see", ("but", ("either", (("same", "own"), ("through", "up", "see"))), ("same", "ban"))))
        many = 700
        chain = [(("doc", k), "up", ("one", ("doc", k + 1))) for k in range(1, many)] + [gives(ANN, many, "own")]
        for state, last in ((chain, "no"), (chain + [(("doc", many), "up", ("one", DOC))], "deep")):
            self.assertEqual(check_within(schema, state, DOC, "see", ANN, many), "deep")
            self.assertEqual(check_within(schema, state, DOC, "see", ANN, many + 1), "yes")
            self.assertEqual(depth_needed(schema, state, DOC, "see", ANN), many + 1)
            self.assertEqual(rank(schema, state, DOC, "see", ANN), many + 1)
            self.assertEqual(check_within(schema, state, DOC, "see", BOB, GREAT), last)
            self.assertEqual(len(never_told(schema, state, BOB)), many if last == "deep" else 0)
            self.assertEqual(calls_within(schema, state, DOC, "see", 100), 1 + 3 * 100)
        banned = chain + [gives(ANN, 350, "ban")]
        self.assertEqual(depth_needed(schema, banned, DOC, "see", ANN), 351)
        self.assertIsNone(rank(schema, banned, DOC, "see", ANN))
        self.assertEqual(rank(schema, banned, ("doc", 351), "see", ANN), many - 349)


class CallsTest(unittest.TestCase):
    def test_each_place_of_a_rule_counts(self):
        schema = schema_with(
            ("up", ("links", ("doc",))), ("own", ONE),
            ("see", ("either", (("same", "own"), ("both", (("same", "own"), ("through", "up", "own"))),
                                ("but", ("through", "up", "see"), ("through", "up", "own"))))))
        links = [(DOC, "up", ("one", ("doc", k))) for k in (2, 3)] * 2
        self.assertEqual([calls_within(schema, [], DOC, "see", depth) for depth in range(4)], [1, 3, 3, 3])
        # Two own of its own, twice two own and two see of the others; each of these reads two own.
        self.assertEqual([calls_within(schema, links, DOC, "see", depth) for depth in range(4)], [1, 9, 13, 13])

    def test_different_subjects_count_once(self):
        state = [asks(1, 2), asks(1, 2), asks(1, 3), gives(ANN), (DOC, "see", ("all", "user"))]
        self.assertEqual([calls_within(SEE, state, DOC, "see", depth) for depth in range(3)], [1, 3, 3])

    def test_all_is_asked_for_even_if_the_answer_is_sure(self):
        state = [gives(ANN), asks(1, 2), asks(2, 3)]
        self.assertEqual(calls_within(SEE, state, DOC, "see", 2), 3)

    def test_great_numbers(self):
        state = [asks(k, other) for k in range(1, 11) for other in range(1, 11)]
        self.assertEqual(calls_within(SEE, state, DOC, "see", 100), sum(10 ** k for k in range(101)))
        self.assertEqual(calls_within(SEE, [asks(1, 1)], DOC, "see", 100), 101)

    def test_wrong_depths(self):
        for depth in (-1, 101, GREAT, True, False, None, "1", [1]):
            self.assertEqual(told(calls_within, SEE, [], DOC, "see", depth), ("InvalidNumber", "depth"))
        self.assertEqual([calls_within(SEE, [], DOC, "see", depth) for depth in (0, 100)], [1, 1])


class RankTest(unittest.TestCase):
    def test_the_shortest_way_counts(self):
        state = [asks(1, 2), asks(2, 3), gives(ANN, 3)]
        self.assertEqual(rank(SEE, state, DOC, "see", ANN), 3)
        self.assertEqual(rank(SEE, state + [asks(1, 4), gives(ANN, 4)], DOC, "see", ANN), 2)
        self.assertEqual(rank(SEE, state + [gives(ANN)], DOC, "see", ANN), 1)
        self.assertIsNone(rank(SEE, state, DOC, "see", BOB))
        self.assertIsNone(rank(SEE, state, ("doc", 77), "see", ANN))

    def test_a_both_waits_for_all_its_parts(self):
        schema = schema_with(("own", ONE), ("low", ("same", "own")), ("see", ("both", (("same", "own"), ("same", "low")))))
        self.assertEqual(rank(schema, [gives(ANN, 1, "own")], DOC, "see", ANN), 3)

    def test_what_a_but_takes_away_needs_no_rounds(self):
        schema = schema_with(
            ("up", ("links", ("doc",))), ("own", ONE), ("ban", ("either", (ONE, ("through", "up", "ban")))),
            ("see", ("but", ("same", "own"), ("same", "ban"))))
        links = [(("doc", k), "up", ("one", ("doc", k + 1))) for k in range(1, 9)]
        state = links + [gives(ANN, 1, "own"), gives(BOB, 1, "own"), gives(BOB, 9, "ban")]
        self.assertEqual(rank(schema, state, DOC, "see", ANN), 2)
        self.assertEqual(depth_needed(schema, state, DOC, "see", ANN), 10)
        self.assertIsNone(rank(schema, state, DOC, "see", BOB))
        self.assertEqual(depth_needed(schema, state, DOC, "see", BOB), 10)


if __name__ == "__main__":
    unittest.main()
