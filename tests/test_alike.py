"""[10.1] alike, parting, [10.2] without_part, spare_parts, [10.3] rows_lost, rights_changed."""

import unittest

from relatedrights.alike import alike, parting, rights_changed, rows_lost, spare_parts, without_part
from relatedrights.states import check
from tests.samples import ANY, ONE, odd_values, told

OWN, SEE, BAN = ("same", "own"), ("same", "see"), ("same", "ban")
UP = ("links", ("doc",))


def schema_of(see, own=ONE, ban=ANY):
    """A schema with a right `see` by this rule, and two others."""
    return (("user", ()), ("doc", (("up", UP), ("own", own), ("ban", ban), ("see", see))))


class ExampleTest(unittest.TestCase):
    def test_the_example_of_the_document(self):
        one, see = ("direct", (("one", "user"),)), ("same", "see")
        first = (("user", ()), ("doc", (("see", one), ("edit", ("but", ("either", (one, see)), see)))))
        other = (("user", ()), ("doc", (("see", one), ("edit", ("but", one, see)))))
        third = (("user", ()), ("doc", (("see", one), ("edit", one))))
        self.assertEqual([alike(first, other), alike(first, third)], [True, False])


class AlikeTest(unittest.TestCase):
    def alike(self, first, other):
        self.assertIs(alike(first, other), True)
        self.assertIs(alike(other, first), True)
        self.assertIsNone(parting(first, other))

    def apart(self, first, other):
        for one, two in ((first, other), (other, first)):
            self.assertIs(alike(one, two), False)
            state, thing, relation, user = parting(one, two)
            self.assertIs(type(state), list)
            self.assertNotEqual(check(one, state, thing, relation, user), check(two, state, thing, relation, user))

    def test_parts_in_another_order_doubled_and_nested_otherwise(self):
        through = ("through", "up", "see")
        base = schema_of(("either", (OWN, through, BAN)))
        for rule in (("either", (BAN, OWN, through)), ("either", (OWN, through, BAN, OWN)),
                     ("either", (("either", (OWN, through)), BAN)), ("either", (OWN, ("either", (BAN, through)))),
                     ("either", (OWN, BAN, ("both", (through, ("either", (through, OWN))))))):
            self.alike(base, schema_of(rule))
        for rule in (("either", (OWN, BAN)), ("either", (OWN, through)), ("both", (OWN, through, BAN)),
                     ("either", (("both", (OWN, through)), BAN)), ("but", ("either", (OWN, through)), BAN)):
            self.apart(base, schema_of(rule))

    def test_rings_that_give_nothing(self):
        self.alike(schema_of(OWN), schema_of(("either", (OWN, SEE))))
        self.alike(schema_of(("through", "up", "see")), schema_of(("same", "see")))
        self.alike(schema_of(("through", "up", "see")), schema_of(("both", (OWN, ("through", "up", "see")))))
        self.apart(schema_of(("either", (OWN, ("through", "up", "see")))), schema_of(("either", (OWN, SEE))))

    def test_what_other_rules_make_so(self):
        # Who owns is never banned.
        own = ("but", ONE, BAN)
        self.alike(schema_of(OWN, own), schema_of(("but", OWN, BAN), own))
        self.apart(schema_of(OWN), schema_of(("but", OWN, BAN)))
        # A thing that is seen through shows only what is so of it.
        self.alike(schema_of(("through", "up", "own"), own),
                   schema_of(("both", (("through", "up", "own"), ("through", "up", "own"))), own))

    def test_forms_in_another_order(self):
        self.alike(schema_of(OWN, ANY), schema_of(OWN, ("direct", ANY[1][::-1])))

    def test_who_rows_that_tell_a_right_by_one_schema_alone(self):
        who = ("direct", (("who", "doc", "own"),))
        first = (("user", ()), ("doc", (("own", ("either", (ONE, ("same", "far")))), ("far", ANY), ("see", who))))
        other = (("user", ()), ("doc", (("own", ("either", (ONE, ("same", "see")))), ("far", ANY), ("see", who))))
        self.apart(first, other)
        nested = ("either", (("either", (ONE, ("same", "far"))), ("same", "far")))
        third = (("user", ()), ("doc", (("own", nested), ("far", ANY), ("see", who))))
        self.alike(first, third)

    def test_rights_that_differ_only_far_away(self):
        def chain(rule):
            return (("user", ()), ("aa", (("see", rule), ("own", ONE), ("ban", ONE))),
                    ("bb", (("up", ("links", ("aa",))), ("see", ("through", "up", "see")))),
                    ("cc", (("in", ("links", ("bb",))), ("see", ("through", "in", "see")))))
        state, thing, relation, user = parting(chain(OWN), chain(("but", OWN, BAN)))
        self.apart(chain(OWN), chain(("but", OWN, BAN)))
        self.alike(chain(OWN), chain(("either", (OWN, ("both", (BAN, OWN))))))

    def test_users_of_each_kind_count(self):
        def bots(rule):
            return (("user", ()), ("bot", ()), ("doc", (("own", ONE), ("run", ("direct", (("all", "bot"),))), ("see", rule))))
        base = bots(("same", "own"))
        # A user never runs, and a bot never owns.
        self.alike(base, bots(("but", ("same", "own"), ("same", "run"))))
        self.apart(base, bots(("either", (("same", "own"), ("same", "run")))))

    def test_schemas_without_users_or_without_things(self):
        self.alike((("user", ()),), (("user", ()),))
        first = (("doc", (("own", ("direct", (("who", "doc", "see"),))), ("see", OWN))),)
        other = (("doc", (("own", ("direct", (("who", "doc", "see"),))), ("see", SEE))),)
        self.alike(first, other)

    def test_schemas_that_do_not_have_the_same_rows(self):
        base = (("user", ()), ("bot", ()), ("doc", (("up", ("links", ("doc", "dir"))), ("own", ANY), ("see", OWN))),
                ("dir", (("see", ONE),)))
        doc, directory = base[2], base[3]
        for other in (
                base[1::-1] + base[2:], base[:1] + base[2:], base[:2] + (directory, doc), base + (("more", ()),),
                base[:3] + (("dir", (("see", ANY),)),), base[:3] + (("dir", (("show", ONE),)),),
                base[:3] + (("dir", (("see", ONE), ("own", ONE))),),
                base[:2] + (("doc", doc[1][1:] + doc[1][:1]), directory),
                base[:2] + (("doc", (("up", ("links", ("dir", "doc"))),) + doc[1][1:]), directory),
                base[:2] + (("doc", (("up", ("links", ("doc",))),) + doc[1][1:]), directory),
                base[:2] + (("doc", doc[1][:2] + (("see", ONE),)), directory),
                base[:2] + (("doc", doc[1][:1] + (("own", ("same", "see")), ("see", OWN))), directory),
                base[:2] + (("doc", doc[1][:2] + (("see", ("links", ("dir",))),)), directory),
                base[:2] + (("doc", doc[1][:1] + (("own", ("direct", (("one", "bot"), ("all", "user")))), ("see", OWN))), directory)):
            for function in (alike, parting):
                self.assertEqual(told(function, base, other), ("Mismatch", "other"))
                self.assertEqual(told(function, other, base), ("Mismatch", "other"))
                self.assertEqual(told(function, base, base), ("fine", True if function is alike else None))
        same = base[:2] + (("doc", doc[1][:1] + (("own", ("either", (("direct", ANY[1][::-1]), SEE))), ("see", OWN))), directory)
        self.assertEqual(told(alike, base, same), ("fine", True))

    def test_errors_in_their_order(self):
        ring = schema_of(("but", OWN, SEE))
        self.assertEqual(told(alike, ring, 5), ("CircularBut", "doc", "see"))
        self.assertEqual(told(alike, schema_of(OWN), ring), ("CircularBut", "doc", "see"))
        self.assertEqual(told(parting, schema_of(OWN), (5,)), ("InvalidSchema", (0,)))
        for odd in odd_values():
            self.assertEqual(told(alike, odd, ring), ("InvalidSchema", ()) if not odd == ("user",) and not (
                isinstance(odd, tuple) and 1 <= len(odd) <= 6) else ("InvalidSchema", (0,)))
            self.assertEqual(told(parting, schema_of(OWN), odd)[0], "InvalidSchema")


def wide(rights, more=(), kind="doc"):
    names = "abcdef"[:rights]
    return (("user", ()), (kind, tuple((name, ("either", (ONE, ("same", name)))) for name in names))) + more


class TooLargeTest(unittest.TestCase):
    def test_512_and_more(self):
        self.assertIs(alike(wide(4), wide(4)), True)
        self.assertEqual(told(alike, wide(5), wide(5)), ("TooLarge", 512))
        self.assertEqual(told(parting, wide(5), wide(5)), ("TooLarge", 512))
        # 256 and 256, and one more kind.
        more = (("dir", wide(4)[1][1]),)
        self.assertIs(alike(wide(4, more), wide(4, more)), True)
        more += (("dot", (("up", ("links", ("dot",))),)),)
        self.assertEqual(told(alike, wide(4, more), wide(4, more)), ("TooLarge", 512))
        # Nine atoms: four of one schema, five of the other one.
        def linked(rule):
            names = (("a", ONE), ("b", ONE), ("c", ONE), ("d", rule))
            return (("user", ()), ("doc", (("up", UP),) + names))
        self.assertIs(alike(linked(("same", "a")), linked(("both", (("same", "a"), ("same", "a"))))), True)
        three = linked(("either", (("through", "up", "a"), ("through", "up", "b"), ("through", "up", "c"))))
        self.assertIs(alike(linked(("same", "a")), three), False)
        self.assertEqual(told(alike, linked(("through", "up", "a")), three), ("TooLarge", 512))
        self.assertEqual(told(alike, wide(5), wide(4)), ("Mismatch", "other"))

    def test_kinds_of_users_that_come_later_count(self):
        kinds = tuple((name, ("direct", (("one", "user"), ("all", "bot"))[k > 0:])) for k, name in enumerate("abcde"))
        schema = (("user", ()), ("bot", ()), ("doc", kinds))
        other = (("user", ()), ("bot", ()), ("doc", tuple(
            (name, ("either", (rule, ("same", "a")))) if name == "b" else (name, rule) for name, rule in kinds)))
        self.assertEqual(told(alike, schema, other), ("TooLarge", 512))

    def test_spare_parts_of_large_schemas(self):
        self.assertEqual(told(spare_parts, wide(5)), ("TooLarge", 512))
        plain = (("user", ()), ("doc", tuple((name, ONE) for name in "abcdef")))
        self.assertEqual(spare_parts(plain), [])


class PartsTest(unittest.TestCase):
    RULE = ("but", ("either", (("both", (OWN, ONE, BAN)), ("same", "see"), ("but", OWN, ("either", (BAN, OWN))))),
            ("through", "up", "ban"))
    SCHEMA = schema_of(RULE)
    PATHS = [(0, 0, 0), (0, 0, 2), (0, 1), (0, 2), (0, 2, 1), (0, 2, 1, 0), (0, 2, 1, 1), (1,)]

    def left(self, path, kind="doc", relation="see"):
        return dict(without_part(self.SCHEMA, kind, relation, path)[1][1])["see"]

    def test_each_sort_of_a_part(self):
        both, see, but = self.RULE[1][1]
        through = self.RULE[2]
        either = ("either", (both, see, but))
        self.assertEqual(self.left((1,)), either)
        self.assertEqual(self.left((0, 1)), ("but", ("either", (both, but)), through))
        self.assertEqual(self.left((0, 2)), ("but", ("either", (both, see)), through))
        self.assertEqual(self.left((0, 0, 0)), ("but", ("either", (("both", (ONE, BAN)), see, but)), through))
        self.assertEqual(self.left((0, 0, 2)), ("but", ("either", (("both", (OWN, ONE)), see, but)), through))
        self.assertEqual(self.left((0, 2, 1)), ("but", ("either", (both, see, OWN)), through))
        self.assertEqual(self.left((0, 2, 1, 0)), ("but", ("either", (both, see, ("but", OWN, OWN))), through))
        self.assertEqual(self.left((0, 2, 1, 1)), ("but", ("either", (both, see, ("but", OWN, BAN))), through))

    def test_the_rest_of_the_schema_stays(self):
        schema = without_part(self.SCHEMA, "doc", "see", (1,))
        self.assertEqual(schema[0], self.SCHEMA[0])
        self.assertEqual(schema[1][0], "doc")
        self.assertEqual(schema[1][1][:3], self.SCHEMA[1][1][:3])
        self.assertEqual(type(schema[1][1]), tuple)

    def test_parts_that_can_not_go(self):
        for path in ((), (0,), (0, 0), (0, 0, 1), (0, 2, 0), (2,), (0, 3), (-1,), (0, 0, 0, 0), (1, 0), (0, 1, 0), (True,),
                     (0, True), [1], 1, None, "1", ((1,),), {1}, (0, 2, 1, 2), (None,), (10 ** 30,)):
            self.assertEqual(told(without_part, self.SCHEMA, "doc", "see", path), ("Mismatch", "path"))
        for odd in odd_values():
            self.assertEqual(told(without_part, self.SCHEMA, "doc", "see", odd), ("Mismatch", "path"))
            self.assertEqual(told(without_part, self.SCHEMA, "doc", "see", (0, odd)), ("Mismatch", "path"))
        self.assertEqual(told(without_part, self.SCHEMA, "doc", "own", ()), ("Mismatch", "path"))

    def test_what_is_no_right_of_a_kind(self):
        for kind in ("user", "none", None, ["doc"], 0):
            self.assertEqual(told(without_part, self.SCHEMA, kind, "none", None), ("InvalidKind", kind))
        for relation in ("up", "none", None, ["see"], 0):
            self.assertEqual(told(without_part, self.SCHEMA, "doc", relation, None), ("InvalidRelation", relation))

    def test_spare_parts_in_their_order(self):
        # The second (own, banned) adds nothing; nor does the ring.
        spare = [path for path in self.PATHS if alike(self.SCHEMA, without_part(self.SCHEMA, "doc", "see", path))]
        self.assertEqual(spare_parts(self.SCHEMA), [("doc", "see", path) for path in spare])
        self.assertEqual(spare, [(0, 1), (0, 2), (0, 2, 1, 0)])
        ring = ("either", (OWN, SEE, ("both", (OWN, BAN))))
        self.assertEqual(spare_parts(schema_of(ring)), [("doc", "see", (1,)), ("doc", "see", (2,)), ("doc", "see", (2, 1))])
        two = (("user", ()), ("doc", (("b", ("either", (ONE, ("same", "b")))), ("a", ("but", ANY, ("same", "c"))), ("c", (
            "same", "c")))), ("aa", (("z", ("both", (ONE, ("same", "y"), ("same", "y")))), ("y", ONE))))
        self.assertEqual(spare_parts(two), [("doc", "b", (1,)), ("doc", "a", (1,)), ("aa", "z", (1,)), ("aa", "z", (2,))])
        self.assertEqual(spare_parts(schema_of(ONE)), [])


class AnotherSchemaTest(unittest.TestCase):
    ANN, BOB, BOT, DOC, FAR = ("user", 1), ("user", 2), ("bot", 1), ("doc", 1), ("doc", 2)
    SCHEMA = (("user", ()), ("bot", ()), ("doc", (("up", UP), ("own", ("direct", (("one", "user"), ("all", "user"), ("one", "bot"),
                                                                                 ("all", "bot")))),
                                                  ("see", ("either", (OWN, ("through", "up", "see")))))))
    STATE = [(DOC, "own", ("one", ANN)), (FAR, "up", ("one", DOC)), (DOC, "own", ("one", BOT)), (DOC, "own", ("one", ANN)),
             (FAR, "own", ("all", "bot"))]

    def test_the_same_schema(self):
        self.assertEqual(rows_lost(self.SCHEMA, self.SCHEMA, self.STATE), [])
        self.assertEqual(rights_changed(self.SCHEMA, self.SCHEMA, self.STATE), ([], []))
        self.assertEqual(rights_changed(self.SCHEMA, self.SCHEMA, ()), ([], []))

    def test_rows_that_are_lost(self):
        other = (("user", ()), ("doc", (("own", ONE), ("see", OWN))))
        self.assertEqual(rows_lost(self.SCHEMA, other, self.STATE), [1, 2, 4])
        self.assertEqual(rights_changed(self.SCHEMA, other, self.STATE), ([], [
            (self.DOC, "own", self.BOT), (self.DOC, "see", self.BOT), (self.FAR, "own", self.BOT), (self.FAR, "own", "bot"),
            (self.FAR, "see", self.BOT), (self.FAR, "see", self.ANN), (self.FAR, "see", "bot")]))

    def test_rights_that_only_one_schema_has(self):
        other = self.SCHEMA[:2] + (("doc", self.SCHEMA[2][1][:2] + (("edit", OWN), ("all", ("same", "edit")))),)
        come, gone = rights_changed(self.SCHEMA, other, self.STATE)
        self.assertEqual(come, [(self.DOC, "all", self.BOT), (self.DOC, "all", self.ANN), (self.DOC, "edit", self.BOT),
                                (self.DOC, "edit", self.ANN), (self.FAR, "all", self.BOT), (self.FAR, "all", "bot"),
                                (self.FAR, "edit", self.BOT), (self.FAR, "edit", "bot")])
        self.assertEqual(gone, [(self.DOC, "see", self.BOT), (self.DOC, "see", self.ANN), (self.FAR, "see", self.BOT),
                                (self.FAR, "see", self.ANN), (self.FAR, "see", "bot")])

    def test_kinds_that_are_others(self):
        # What was a kind of users is one of things, and the other way about.
        other = (("doc", ()), ("user", (("up", ("links", ("user",))), ("own", ("direct", (("one", "doc"),))))), ("bot", ()))
        self.assertEqual(rows_lost(self.SCHEMA, other, self.STATE), [0, 1, 2, 3, 4])
        come, gone = rights_changed(self.SCHEMA, other, self.STATE)
        self.assertEqual(come, [])
        self.assertIn((self.FAR, "see", "bot"), gone)
        # A row that is one by both: a link there, and a right here.
        other = (("bot", ()), ("user", (("in", ("links", ("user",))), ("own", ("direct", (("one", "bot"),))))),
                 ("doc", (("own", ("links", ("user",))), ("see", ("through", "own", "own")))))
        self.assertEqual(rows_lost(self.SCHEMA, other, self.STATE), [1, 2, 4])
        come, gone = rights_changed(self.SCHEMA, other, self.STATE)
        self.assertEqual(come, [])
        self.assertIn((self.DOC, "own", self.ANN), gone)

    def test_users_that_only_the_first_schema_names(self):
        # Bob is named by a row that is lost, and has what all others have.
        state = [(self.DOC, "own", ("one", self.BOB)), (self.FAR, "own", ("all", "user"))]
        other = (("user", ()), ("doc", (("own", ("direct", (("all", "user"),))), ("more", OWN))))
        self.assertEqual(rows_lost(self.SCHEMA, other, state), [0])
        self.assertEqual(rights_changed(self.SCHEMA, other, state), (
            [(self.FAR, "more", self.BOB), (self.FAR, "more", "user")],
            [(self.DOC, "own", self.BOB), (self.DOC, "see", self.BOB), (self.FAR, "see", self.BOB), (self.FAR, "see", "user")]))

    def test_things_that_only_lost_rows_name(self):
        state = [(self.DOC, "up", ("one", self.FAR)), (self.FAR, "own", ("all", "user"))]
        other = (("user", ()), ("doc", (("own", ANY),)))
        self.assertEqual(rights_changed(self.SCHEMA, other, state), ([], [
            (self.DOC, "see", "user"), (self.FAR, "see", "user")]))

    def test_errors_in_their_order(self):
        for function in (rows_lost, rights_changed):
            self.assertEqual(told(function, (5,), 5, 5), ("InvalidSchema", (0,)))
            self.assertEqual(told(function, self.SCHEMA, (), 5), ("InvalidSchema", ()))
            self.assertEqual(told(function, self.SCHEMA, self.SCHEMA, 5), ("InvalidState", -1))
            self.assertEqual(told(function, self.SCHEMA, (("user", ()),), self.STATE + [5]), ("InvalidState", 5))
            for odd in odd_values():
                self.assertEqual(told(function, self.SCHEMA, odd, None)[0], "InvalidSchema")


if __name__ == "__main__":
    unittest.main()
