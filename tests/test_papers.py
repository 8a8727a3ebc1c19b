"""[4.1] judge, [4.2] paper_for, [4.3] trimmed, [4.4] weight, [4.5] ways."""

import unittest

from relatedrights.errors import InvalidNumber, Mismatch, TooLarge
from relatedrights.papers import judge, paper_for, trimmed, ways, weight
from relatedrights.states import check
from tests.samples import GREAT, ONE, SCHEMA, STATE, deep_list, deep_tuple, odd_values, told

ANN, BOB, BOT = ("user", 1), ("user", 2), ("bot", 3)
DOC, FAR = ("doc", 1), ("doc", 2)

FORMS = ("direct", (("one", "user"), ("all", "bot"), ("who", "doc", "own")))
RULES = (("user", ()), ("bot", ()), ("doc", (
    ("up", ("links", ("doc",))),
    ("own", FORMS),
    ("ban", ONE),
    ("same", ("same", "own")),
    ("far", ("through", "up", "own")),
    ("some", ("either", (("same", "own"), ("same", "ban"), ("through", "up", "own")))),
)), ("set", (
    ("up", ("links", ("doc",))),
    ("own", ONE),
    ("ban", ONE),
    ("all", ("both", (("same", "own"), ("same", "ban")))),
    ("but", ("but", ("same", "own"), ("same", "ban"))),
    ("deep", ("either", (("both", (("same", "own"), ("but", ("same", "own"), ("same", "ban")))), ("same", "all")))),
)))
SET = ("set", 4)
ROWS = [(DOC, "own", ("one", ANN)), (DOC, "own", ("all", "bot")), (FAR, "own", ("who", DOC, "own")),
        (FAR, "up", ("one", DOC)), (SET, "own", ("one", ANN)), (SET, "own", ("one", BOB)), (SET, "ban", ("one", BOB))]

OWN = ("has", DOC, "own", ("row", ("one", ANN)))
SET_OWN = ("has", SET, "own", ("row", ("one", ANN)))
NO_BAN = ("lacks", ((SET, "ban", ("none",)),))


def verdict(*steps, user=ANN):
    """What judge says of a list of steps, and of a tuple of them."""
    found = judge(RULES, ROWS, user, list(steps))
    assert judge(RULES, ROWS, user, steps) == found
    return found


class ExampleTest(unittest.TestCase):
    def test_the_example_of_the_document(self):
        schema = (("user", ()), ("doc", (("see", ("direct", (("one", "user"), ("who", "doc", "see")))),)))
        one, two, ann = ("doc", 1), ("doc", 2), ("user", 5)
        state = [(one, "see", ("who", two, "see")), (two, "see", ("who", one, "see")), (two, "see", ("one", ann))]
        steps = [("has", two, "see", ("row", ("one", ann))), ("has", one, "see", ("row", ("who", two, "see")))]
        lost = ("lacks", ((one, "see", ("none",)), (two, "see", ("none",))))
        self.assertEqual(
            [judge(schema, state, ann, steps), judge(schema, state, ann, steps[::-1]),
             judge(schema, state, ("user", 6), [lost]), weight(schema, state, one, "see", ann),
             ways(schema, state, one, "see", ann, 4)],
            [None, 0, None, 2, 2])


class JudgeTest(unittest.TestCase):
    def test_rows(self):
        self.assertIsNone(verdict(OWN))
        self.assertIsNone(verdict(("has", DOC, "own", ("row", ("all", "bot"))), user=BOT))
        self.assertIsNone(verdict(OWN, ("has", FAR, "own", ("row", ("who", DOC, "own")))))
        for reason in (("row", ("one", BOB)), ("row", ("all", "bot")), ("row", ("all", "user")), ("row", ANN), ("row",),
                       ("row", ("one", ANN), 1), ["row", ("one", ANN)], ("row", ["one", ANN]), ("same",), (), "row",
                       ("row", ("one", ("user", True))), ("row", ("who", FAR, "own")), ("none",), None):
            self.assertEqual(verdict(("has", DOC, "own", reason)), 0, reason)
        # A row that is there for somebody else, and one that is there for nobody.
        self.assertEqual(verdict(("has", SET, "ban", ("row", ("one", BOB)))), 0)
        self.assertEqual(verdict(("has", SET, "ban", ("row", ("one", ANN)))), 0)

    def test_who_needs_what_is_known(self):
        far = ("has", FAR, "own", ("row", ("who", DOC, "own")))
        self.assertEqual([verdict(far), verdict(far, OWN), verdict(OWN, far)], [0, 0, None])
        self.assertEqual(verdict(OWN, ("has", FAR, "own", ("row", ("who", DOC, "ban")))), 1)

    def test_same_and_through(self):
        same, far = ("has", DOC, "same", ("same",)), ("has", FAR, "far", ("to", DOC))
        self.assertEqual([verdict(OWN, same, far), verdict(same), verdict(far, OWN), verdict(same, OWN)],
                         [None, 0, 0, 0])
        for reason in (("to", FAR), ("to", ("doc", True)), ("to", ["doc", 1]), ("to",), ("to", DOC, 1), ("to", ANN),
                       ("to", ("doc", 9)), ("same",), [], ("to", None), ("to", deep_tuple())):
            self.assertEqual(verdict(OWN, ("has", FAR, "far", reason)), 1, reason)
        for reason in (("same", 1), ("same", "own"), ("to", DOC), "same", ["same"], ("row", ("one", ANN))):
            self.assertEqual(verdict(OWN, ("has", DOC, "same", reason)), 1, reason)

    def test_parts_of_an_either(self):
        self.assertIsNone(verdict(OWN, ("has", DOC, "some", ("part", 0, ("same",)))))
        self.assertIsNone(verdict(OWN, ("has", FAR, "some", ("part", 2, ("to", DOC)))))
        for reason in (("part", 1, ("same",)), ("part", 2, ("to", DOC)), ("part", False, ("same",)),
                       ("part", -3, ("same",)), ("part", 3, ("same",)), ("part", "0", ("same",)), ("part", 0),
                       ("part", 0, ("same",), 1), ("part", None, ("same",)), ("part", 0, ("to", DOC)),
                       ("part", [0], ("same",)), ("part", GREAT, ("same",)), ("parts", (("same",),)), ("same",)):
            self.assertEqual(verdict(OWN, ("has", DOC, "some", reason)), 1, reason)

    def test_true_is_never_1(self):
        ban = ("has", SET, "ban", ("row", ("one", BOB)))
        own = ("has", SET, "own", ("row", ("one", BOB)))
        both = ("has", SET, "all", ("parts", (("same",), ("same",))))
        self.assertIsNone(verdict(own, ban, both, user=BOB))
        self.assertEqual(verdict(own, ban, both, ("has", SET, "deep", ("part", True, ("same",))), user=BOB), 3)
        self.assertIsNone(verdict(own, ban, both, ("has", SET, "deep", ("part", 1, ("same",))), user=BOB))
        self.assertEqual(verdict(("has", ("doc", True), "own", ("row", ("one", ANN)))), 0)
        self.assertEqual(verdict(("lacks", (((("set", True), "ban", ("none",))),))), 0)
        self.assertEqual(verdict(("lacks", ((SET, "all", ("part", True, ("none",))),))), 0)

    def test_all_parts_of_a_both(self):
        own, ban = ("has", SET, "own", ("row", ("one", BOB))), ("has", SET, "ban", ("row", ("one", BOB)))
        self.assertEqual(verdict(own, ("has", SET, "all", ("parts", (("same",), ("same",)))), user=BOB), 1)
        for reason in (("parts", (("same",),)), ("parts", (("same",),) * 3), ("parts", [("same",)] * 2), ("parts",),
                       ("part", 0, ("same",)), ("parts", (("same",), ("to", DOC))), ("parts", "ab"), ("parts", None)):
            self.assertEqual(verdict(own, ban, ("has", SET, "all", reason), user=BOB), 2, reason)

    def test_buts(self):
        step = ("has", SET, "but", ("but", ("same",), ("none",)))
        self.assertIsNone(verdict(SET_OWN, NO_BAN, step))
        self.assertEqual([verdict(SET_OWN, step), verdict(NO_BAN, step)], [1, 1])
        for reason in (("but", ("same",)), ("but", ("same",), ("same",)), ("same",), ("but", ("none",), ("none",)),
                       ("but", ("same",), ("none",), 1)):
            self.assertEqual(verdict(SET_OWN, NO_BAN, ("has", SET, "but", reason)), 2, reason)
        deep = ("part", 0, ("parts", (("same",), ("but", ("same",), ("none",)))))
        self.assertIsNone(verdict(SET_OWN, NO_BAN, ("has", SET, "deep", deep)))

    def test_wants(self):
        self.assertIsNone(verdict(NO_BAN))
        self.assertEqual(verdict(NO_BAN, user=BOB), 0)
        self.assertEqual(verdict(("lacks", ((DOC, "own", ("none",)),)), user=BOT), 0)
        lost = ("lacks", ((DOC, "own", ("none",)),))
        self.assertIsNone(verdict(lost, user=BOB))
        # What reads a right is missing only behind this one.
        for entry in ((DOC, "same", ("none",)), (FAR, "own", ("none",)), (FAR, "far", ("none",))):
            self.assertIsNone(verdict(lost, ("lacks", (entry,)), user=BOB))
            self.assertEqual(verdict(("lacks", (entry,)), lost, user=BOB), 0)
            self.assertIsNone(verdict(("lacks", (entry, lost[1][0])), user=BOB))
        self.assertIsNone(verdict(("lacks", ((DOC, "far", ("none",)),)), user=BOB))

    def test_wants_of_parts(self):
        lost = ("lacks", ((DOC, "own", ("none",)), (FAR, "own", ("none",)), (FAR, "ban", ("none",))))
        self.assertIsNone(verdict(lost, ("lacks", ((FAR, "some", ("parts", (("none",),) * 3)),)), user=BOB))
        for want in (("parts", (("none",),) * 2), ("parts", [("none",)] * 3), ("part", 0, ("none",)), ("none",),
                     ("parts", (("none",), ("none",), ("same",))), ("parts",)):
            self.assertEqual(verdict(lost, ("lacks", ((FAR, "some", want),)), user=BOB), 1, want)
        self.assertIsNone(verdict(NO_BAN, ("lacks", ((SET, "all", ("part", 1, ("none",))),))))
        for want in (("part", 0, ("none",)), ("part", 2, ("none",)), ("part", -1, ("none",)), ("parts", (("none",),) * 2)):
            self.assertEqual(verdict(NO_BAN, ("lacks", ((SET, "all", want),))), 1, want)

    def test_wants_of_buts(self):
        ban = ("has", SET, "ban", ("row", ("one", BOB)))
        self.assertIsNone(verdict(ban, ("lacks", ((SET, "but", ("second", ("same",))),)), user=BOB))
        self.assertEqual(verdict(("lacks", ((SET, "but", ("second", ("same",))),)), ban, user=BOB), 0)
        none = ("lacks", ((SET, "own", ("none",)),))
        self.assertIsNone(verdict(none, ("lacks", ((SET, "but", ("first", ("none",))),)), user=("user", 9)))
        for want in (("first", ("same",)), ("second", ("none",)), ("first",), ("none",), ("second", ("same",), 1)):
            self.assertEqual(verdict(ban, ("lacks", ((SET, "but", want),)), user=BOB), 1, want)

    def test_entries_that_miss_one_another_in_a_ring(self):
        schema = (("user", ()), ("doc", (("a", ("same", "b")), ("b", ("same", "a")))))
        ring = ("lacks", ((DOC, "a", ("none",)), (DOC, "b", ("none",)), (DOC, "a", ("none",))))
        self.assertIsNone(judge(schema, [], ANN, [ring]))
        self.assertEqual(judge(schema, [], ANN, [("lacks", ring[1][:1])]), 0)
        self.assertEqual(judge(schema, [], ANN, [("has", DOC, "a", ("same",)), ("has", DOC, "b", ("same",))]), 0)

    def test_a_wrong_step_shows_nothing(self):
        half = ("lacks", ((DOC, "own", ("none",)), (SET, "own", ("none",))))
        self.assertEqual(verdict(half, ("lacks", ((DOC, "same", ("none",)),)), user=BOB), 0)

    def test_the_first_wrong_step_counts(self):
        self.assertEqual(verdict(OWN, OWN, 5, None), 2)
        self.assertIsNone(verdict())
        for k in range(5):
            self.assertEqual(verdict(*[OWN] * k, ("has",), OWN), k)

    def test_no_steps(self):
        for step in (("has", DOC, "own"), ("has", DOC, "up", ("none",)), ("has", ANN, "own", ("same",)), ("lacks", ()),
                     ("lacks", [(SET, "ban", ("none",))]), ("lacks", ([SET, "ban", ("none",)],)), list(NO_BAN),
                     ("lacks", ((SET, "ban"),)), ("lacks", ((SET, "ban", ("none",), 1),)), ("lacks", (SET,)), list(OWN),
                     ("has", DOC, "none", ("same",)), ("has", ("doc", -1), "own", OWN[3]), OWN + (1,), NO_BAN + (1,),
                     ("has", DOC, ["own"], OWN[3]), ("has", ["doc", 1], "own", OWN[3]), ("had",) + OWN[1:], "has", ("has",),
                     ("lacks", ((SET, "up", ("none",)),)), (b"has",) + OWN[1:], deep_tuple(), deep_list()):
            self.assertEqual(verdict(OWN, step), 1, step if len(step) > 1 else "")

    def test_any_object_in_any_place(self):
        for odd in odd_values():
            expected = None if odd in ([], ()) else 0 if isinstance(odd, (list, tuple)) else -1
            self.assertEqual(judge(RULES, ROWS, ANN, odd), expected)
            for step in (odd, ("has", odd, "own", OWN[3]), ("has", DOC, odd, OWN[3]), ("has", DOC, "own", odd),
                         ("has", DOC, "own", ("row", odd)), ("has", DOC, "own", ("row", ("one", odd))), ("lacks", odd),
                         ("lacks", (odd,)), ("lacks", ((SET, "ban", odd),)), ("lacks", ((odd, "ban", ("none",)),)),
                         ("has", DOC, "own", (odd, ("one", ANN))), (odd, DOC, "own", OWN[3]),
                         ("lacks", ((SET, odd, ("none",)),)), ("has", FAR, "some", ("part", odd, ("to", DOC))),
                         ("has", SET, "all", ("parts", odd)), ("has", SET, "but", ("but", odd, odd))):
                self.assertEqual(verdict(OWN, step), 1)


class PaperForTest(unittest.TestCase):
    def shows(self, schema, state, thing, relation, user):
        """The words of the steps of a paper, which must stand, and whose last step must show what is so."""
        paper = paper_for(schema, state, thing, relation, user)
        self.assertIsNone(judge(schema, state, user, paper))
        last = paper[-1]
        shown = [last[1:3]] if last[0] == "has" else [entry[:2] for entry in last[1]]
        self.assertIn((thing, relation), shown)
        self.assertEqual(last[0], "has" if check(schema, state, thing, relation, user) else "lacks")
        return [step[0] for step in paper]

    def test_all_forms(self):
        for user in (ANN, BOB, BOT, ("user", 9)):
            for thing in (DOC, FAR, SET, ("doc", 9), ("set", 9)):
                for name in ("own", "ban") + (("same", "far", "some") if thing[0] == "doc" else ("all", "but", "deep")):
                    self.shows(RULES, ROWS, thing, name, user)
        self.assertEqual(self.shows(RULES, ROWS, FAR, "far", ANN), ["has", "has"])
        self.assertEqual(self.shows(RULES, ROWS, SET, "but", BOB), ["has", "lacks"])

    def test_all_rights_of_the_sample(self):
        for thing in (("group", 1), ("folder", 2), ("doc", 5), ("doc", 6)):
            for name in [name for name, rule in dict(SCHEMA)[thing[0]] if rule[0] != "links"]:
                for user in [("user", k) for k in range(1, 5)] + [("bot", 1)]:
                    self.shows(SCHEMA, STATE, thing, name, user)

    def test_long_chains_and_rings(self):
        schema = (("user", ()), ("doc", (
            ("up", ("links", ("doc",))), ("ban", ONE),
            ("see", ("but", ("either", (ONE, ("through", "up", "see"))), ("same", "ban"))))))
        chain = [(("doc", k), "up", ("one", ("doc", k + 1))) for k in range(1, 500)]
        state = chain + [(("doc", 500), "up", ("one", DOC)), (("doc", 500), "see", ("one", ANN)),
                         (("doc", 250), "ban", ("one", BOB)), (("doc", 500), "see", ("one", BOB))]
        for user in (ANN, BOB, ("user", 3)):
            for k in (1, 250, 251, 500):
                self.shows(schema, state, ("doc", k), "see", user)


class TrimmedTest(unittest.TestCase):
    def test_what_is_left_out(self):
        far = ("has", FAR, "own", ("row", ("who", DOC, "own")))
        same = ("has", DOC, "same", ("same",))
        self.assertEqual(trimmed(RULES, ROWS, ANN, [OWN, SET_OWN, far]), [OWN, far])
        self.assertEqual(trimmed(RULES, ROWS, ANN, (OWN, same, OWN, far)), [OWN, far])
        self.assertEqual(trimmed(RULES, ROWS, ANN, [OWN]), [OWN])
        self.assertEqual(trimmed(RULES, ROWS, ANN, [OWN, NO_BAN]), [NO_BAN])
        self.assertEqual(trimmed(RULES, ROWS, ANN, [OWN, OWN]), [OWN])

    def test_the_later_ones_are_tried_first(self):
        lost = ("lacks", ((DOC, "own", ("none",)),))
        more = ("lacks", ((DOC, "own", ("none",)), (SET, "all", ("part", 0, ("none",))), (SET, "own", ("none",))))
        same = ("lacks", ((DOC, "same", ("none",)),))
        self.assertEqual(trimmed(RULES, ROWS, ("user", 9), [lost, more, same]), [lost, same])
        self.assertEqual(trimmed(RULES, ROWS, ("user", 9), [more, lost, same]), [more, same])

    def test_the_errors_in_their_order(self):
        for paper in (None, 5, "has", {}, set(), iter([OWN])):
            self.assertEqual(told(trimmed, RULES, ROWS, ANN, paper), ("Mismatch", "paper"))
        for paper in ([], (), [5], [OWN, None], [("has", FAR, "own", ("row", ("who", DOC, "own")))], [OWN] * 99 + [1]):
            self.assertEqual(told(trimmed, RULES, ROWS, ANN, paper), ("Mismatch", "paper"))
        self.assertEqual(told(trimmed, RULES, ROWS, ANN, [1] * 101), ("TooLarge", 100))
        self.assertEqual(told(trimmed, RULES, ROWS, ANN, (OWN,) * 101), ("TooLarge", 100))
        self.assertEqual(trimmed(RULES, ROWS, ANN, (OWN,) * 100), [OWN])
        with self.assertRaises(Mismatch):
            trimmed(RULES, ROWS, ANN, None)


class WeightTest(unittest.TestCase):
    def test_each_row_counts_whenever_it_is_read(self):
        self.assertEqual(weight(RULES, ROWS, DOC, "own", ANN), 1)
        self.assertEqual(weight(RULES, ROWS, DOC, "own", BOT), 1)
        self.assertEqual(weight(RULES, ROWS, DOC, "same", ANN), 1)
        self.assertEqual(weight(RULES, ROWS, FAR, "own", ANN), 2)
        self.assertEqual(weight(RULES, ROWS, FAR, "far", ANN), 2)
        self.assertEqual(weight(RULES, ROWS, SET, "all", BOB), 2)
        self.assertEqual(weight(RULES, ROWS, SET, "but", ANN), 1)
        self.assertEqual(weight(RULES, ROWS, SET, "deep", ANN), 2)
        self.assertIsNone(weight(RULES, ROWS, SET, "but", BOB))
        self.assertIsNone(weight(RULES, ROWS, ("doc", 9), "own", ANN))

    def test_a_longer_way_may_be_lighter(self):
        schema = (("user", ()), ("doc", (
            ("a", ONE), ("twice", ("both", (("same", "a"), ("same", "a")))),
            ("late", ("same", "later")), ("later", ("same", "last")), ("last", ("same", "a")),
            ("see", ("either", (("same", "twice"), ("same", "late")))))))
        self.assertEqual(weight(schema, [(DOC, "a", ("one", ANN))], DOC, "see", ANN), 1)

    def test_the_least_of_several_things_counts_until_all_parts_are_there(self):
        schema = (("user", ()), ("doc", (
            ("up", ("links", ("doc",))), ("a", ("direct", (("one", "user"), ("who", "doc", "a")))),
            ("b", ("through", "up", "a")), ("c", ("both", (("same", "b"), ("same", "b"), ("same", "b")))),
            ("see", ("both", (("through", "up", "a"), ("same", "c")))))))
        state = [(DOC, "up", ("one", ("doc", k))) for k in (2, 3, 4)] + [(("doc", 2), "a", ("one", ANN))]
        state += [(("doc", k + 1), "a", ("who", ("doc", k), "a")) for k in (2, 3)]
        self.assertEqual([weight(schema, state, DOC, name, ANN) for name in ("b", "c", "see")], [2, 6, 8])
        self.assertEqual(weight(schema, state[::-1], DOC, "see", ANN), 8)

    def test_great_weights(self):
        schema = (("user", ()), ("doc", (
            ("up", ("links", ("doc",))),
            ("see", ("either", (ONE, ("both", (("through", "up", "see"), ("through", "up", "see")))))))))
        state = [(("doc", k), "up", ("one", ("doc", k + 1))) for k in range(400)] + [(("doc", 400), "see", ("one", ANN))]
        for far in (1, 10, 400):
            self.assertEqual(weight(schema, state, ("doc", 400 - far), "see", ANN), 3 * 2 ** far - 2)


class WaysTest(unittest.TestCase):
    def test_sums_and_products(self):
        self.assertEqual([ways(RULES, ROWS, FAR, "some", ANN, rounds) for rounds in range(5)], [0, 0, 1, 2, 2])
        self.assertEqual([ways(RULES, ROWS, SET, "all", BOB, rounds) for rounds in range(4)], [0, 0, 1, 1])
        self.assertEqual([ways(RULES, ROWS, SET, "but", ANN, rounds) for rounds in range(4)], [0, 0, 1, 1])
        self.assertEqual(ways(RULES, ROWS, SET, "but", BOB, 100), 0)
        schema = (("user", ()), ("doc", (("own", ("direct", (("one", "user"), ("all", "user")))),
                                         ("see", ("both", (("same", "own"), ("same", "own"), ("same", "own")))))))
        state = [(DOC, "own", ("one", ANN)), (DOC, "own", ("all", "user"))] * 3
        self.assertEqual([ways(schema, state, DOC, name, ANN, 9) for name in ("own", "see")], [2, 8])
        self.assertEqual([ways(schema, state, DOC, name, BOB, 9) for name in ("own", "see")], [1, 1])

    def test_buts_that_take_all_parts_away(self):
        but = ("but", ("same", "own"), ("same", "ban"))
        schema = (("user", ()), ("doc", (("own", ONE), ("ban", ONE), ("any", ("either", (but, but))),
                                         ("all", ("both", (but, ("same", "own")))),
                                         ("some", ("either", (but, ("same", "own")))))))
        state = [(DOC, name, ("one", user)) for name, user in (("own", ANN), ("own", BOB), ("ban", BOB))]
        names = ("any", "all", "some")
        self.assertEqual([ways(schema, state, DOC, name, ANN, 5) for name in names], [2, 1, 2])
        self.assertEqual([ways(schema, state, DOC, name, BOB, 5) for name in names], [0, 0, 1])
        self.assertEqual([weight(schema, state, DOC, name, ANN) for name in names], [1, 2, 1])
        self.assertEqual([weight(schema, state, DOC, name, BOB) for name in names], [None, None, 1])

    def test_rings_bring_more_in_each_round(self):
        schema = (("user", ()), ("doc", (("see", ("direct", (("one", "user"), ("who", "doc", "see")))),)))
        state = [(DOC, "see", ("one", ANN)), (DOC, "see", ("who", DOC, "see"))]
        self.assertEqual([ways(schema, state, DOC, "see", ANN, rounds) for rounds in (0, 1, 2, 100)], [0, 1, 2, 100])

    def test_the_limit(self):
        part = ("through", "up", "see")
        schema = (("user", ()), ("doc", (
            ("up", ("links", ("doc",))), ("three", ("either", (part, part, part))),
            ("see", ("either", (ONE, ("either", (part, part)), ("either", (part,) * 4), ("either", (part,) * 4)))))))
        # Ten through parts, so each thing has ten times the ways of the one to which it is linked.
        state = [(("doc", k), "up", ("one", ("doc", k + 1))) for k in range(61)] + [(("doc", 61), "see", ("one", ANN))]
        for k in (61, 60, 31, 2):
            self.assertEqual(ways(schema, state, ("doc", k), "see", ANN, 100), 10 ** (61 - k))
        for k in (1, 0):
            self.assertEqual(told(ways, schema, state, ("doc", k), "see", ANN, 100), ("TooLarge", 60))
        self.assertEqual(ways(schema, state, ("doc", 1), "see", ANN, 60), 0)
        self.assertEqual(told(ways, schema, state, ("doc", 1), "see", ANN, 61), ("TooLarge", 60))
        # Nearly the limit: nine tenths of it, and the same and a tenth more.
        self.assertEqual(ways(schema, state, ("doc", 1), "three", ANN, 61), 3 * 10 ** 59)
        with self.assertRaises(TooLarge):
            ways(schema, state, ("doc", 0), "three", ANN, 62)

    def test_one_way_less_than_the_limit(self):
        own = ("direct", (("one", "user"), ("who", "doc", "own")))
        part = ("through", "up", "own")
        nine = ("either", (("either", (part,) * 3), ("either", (part,) * 3), ("either", (part,) * 3)))
        ten = ("either", (("either", (part,) * 4), ("either", (part,) * 3), ("either", (part,) * 3)))
        # Nine ways by each of 60 things, of which each one has ten times the ways of the one ahead of it.
        schema = (("user", ()), ("doc", (("up", ("links", ("doc",))), ("own", ("either", (own, ten))), ("all", nine))))
        things = [("doc", k) for k in range(60)]
        state = [(things[k + 1], "up", ("one", things[k])) for k in range(59)] + [(things[0], "own", ("one", ANN))]
        state += [(("doc", 99), "up", ("one", thing)) for thing in things]
        self.assertEqual(ways(schema, state, ("doc", 99), "all", ANN, 100), 10 ** 60 - 1)
        more = state + [(("doc", 98), "up", ("one", ("doc", 99))), (("doc", 98), "own", ("one", ANN))]
        self.assertEqual(ways(schema, more, ("doc", 98), "own", ANN, 1), 1)
        self.assertEqual(told(ways, schema, more, ("doc", 98), "own", ANN, 100), ("TooLarge", 60))

    def test_squares_of_squares(self):
        both = ("both", (("through", "up", "see"), ("through", "up", "see")))
        schema = (("user", ()), ("doc", (
            ("up", ("links", ("doc",))), ("see", ("either", (("direct", (("one", "user"), ("all", "user"))), both))))))
        state = [(("doc", k), "up", ("one", ("doc", k + 1))) for k in range(200)]
        state += [(("doc", 200), "see", ("one", ANN)), (("doc", 200), "see", ("all", "user"))]
        self.assertEqual(ways(schema, state, ("doc", 195), "see", ANN, 100), 2 ** 32)
        self.assertEqual(told(ways, schema, state, ("doc", 100), "see", ANN, 100), ("fine", 0))
        self.assertEqual(told(ways, schema, state, ("doc", 101), "see", ANN, 100), ("TooLarge", 60))
        self.assertEqual(ways(schema, state, ("doc", 101), "see", BOB, 100), 1)

    def test_wrong_rounds(self):
        for rounds in (-1, 101, GREAT, True, False, None, "1", [1]):
            self.assertEqual(told(ways, RULES, ROWS, DOC, "own", ANN, rounds), ("InvalidNumber", "rounds"))
        with self.assertRaises(InvalidNumber):
            ways(RULES, ROWS, DOC, "own", ANN, 101)


if __name__ == "__main__":
    unittest.main()
