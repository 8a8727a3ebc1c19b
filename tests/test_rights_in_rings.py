"""CircularBut, [1.2] depends_on and [1.3] strata: which right depends on which."""

import random
import unittest

from relatedrights.errors import CircularBut
from relatedrights.schemas import check_schema, depends_on, strata
from tests import slow
from tests.made import some_schema
from tests.samples import ANY, GREAT, ONE, SCHEMA, odd_values, told

FINE = ("fine", None)
UP = ("up", ("links", ("doc", "dir")))


def doc_with(*entries):
    return (("user", ()), ("doc", (UP,) + entries), ("dir", (UP, ("see", ONE), ("own", ONE))))


class CircularButTest(unittest.TestCase):
    def expect(self, schema, *right):
        self.assertEqual(told(check_schema, schema), ("CircularBut",) + right if right else FINE)

    def test_the_example_of_the_document(self):
        schema = (("user", ()), ("doc", (
            ("owner", ("direct", (("one", "user"),))),
            ("guest", ("but", ("direct", (("all", "user"),)), ("same", "guest"))),
        )))
        with self.assertRaises(CircularBut) as caught:
            check_schema(schema)
        self.assertEqual((caught.exception.kind, caught.exception.relation), ("doc", "guest"))

    def test_a_ring_through_the_first_part_alone_is_allowed(self):
        self.expect(doc_with(("see", ("but", ("same", "see"), ("same", "own"))), ("own", ONE)))
        self.expect(doc_with(("see", ("but", ("through", "up", "see"), ("same", "own"))), ("own", ONE)))
        self.expect(doc_with(("see", ("but", ("direct", (("who", "doc", "see"),)), ("same", "own"))), ("own", ONE)))

    def test_a_ring_through_the_second_part(self):
        for part in (("same", "see"), ("through", "up", "see"), ("direct", (("who", "doc", "see"),)),
                     ("either", (("same", "own"), ("same", "see"))), ("both", (("same", "own"), ("same", "see"))),
                     ("but", ("same", "see"), ("same", "own")), ("but", ("same", "own"), ("same", "see"))):
            self.expect(doc_with(("own", ONE), ("see", ("but", ("same", "own"), part))), "doc", "see")

    def test_the_second_part_of_an_inner_but(self):
        inner = ("but", ("same", "own"), ("same", "see"))
        self.expect(doc_with(("own", ONE), ("see", ("but", inner, ("same", "own")))), "doc", "see")
        self.expect(doc_with(("own", ONE), ("see", ("either", (inner, ("same", "own"))))), "doc", "see")

    def test_a_step_of_the_ring_may_be_any_one(self):
        rows = (("see", ("same", "edit")), ("edit", ("but", ("same", "own"), ("same", "ban"))),
                ("own", ONE), ("ban", ("same", "see")))
        self.expect(doc_with(*rows), "doc", "see")
        self.expect(doc_with(rows[1], rows[2], rows[3], rows[0]), "doc", "edit")
        self.expect(doc_with(rows[2], rows[3], rows[0], rows[1]), "doc", "ban")

    def test_a_way_may_pass_a_right_more_than_once(self):
        # own, in a ring with see, comes to the ring of see and ban, which has the but, and back.
        rows = (("own", ("either", (ONE, ("same", "see")))), ("see", ("either", (("same", "own"), ("same", "ban")))),
                ("ban", ("but", ("same", "edit"), ("same", "see"))), ("edit", ONE))
        self.expect(doc_with(*rows), "doc", "own")

    def test_what_only_leads_to_such_a_ring_is_not_in_it(self):
        rows = (("see", ("same", "ban")), ("ban", ("but", ("same", "own"), ("same", "ban"))), ("own", ONE))
        self.expect(doc_with(*rows), "doc", "ban")

    def test_what_such_a_ring_only_leads_to_is_not_in_it(self):
        rows = (("own", ONE), ("ban", ("but", ("same", "own"), ("same", "ban"))))
        self.expect(doc_with(*rows), "doc", "ban")

    def test_a_but_over_no_ring_is_allowed(self):
        self.expect(doc_with(("own", ONE), ("ban", ONE), ("see", ("but", ("same", "own"), ("same", "ban")))))

    def test_over_several_kinds(self):
        team = ("team", (("in", ("links", ("doc",))), ("member", ("but", ONE, ("through", "in", "see")))))
        doc = ("doc", (("see", ("direct", (("who", "team", "member"), ("one", "user")))),))
        self.expect((("user", ()), team, doc), "team", "member")
        self.expect((("user", ()), doc, team), "doc", "see")
        self.expect((doc, team, ("user", ())), "doc", "see")

    def test_the_first_right_in_the_order_of_the_schema(self):
        ring = ("but", ("same", "own"), ("through", "up", "see"))
        left = ("dir", (("up", ("links", ("dir",))), ("own", ONE), ("see", ring)))
        right = ("doc", (("up", ("links", ("doc",))), ("see", ring), ("own", ONE)))
        self.expect((("user", ()), left, right), "dir", "see")
        self.expect((right, left, ("user", ())), "doc", "see")

    def test_against_the_slow_way(self):
        chance = random.Random(11)
        seen = {True: 0, False: 0}
        for k in range(600):
            schema = some_schema(chance, k % 3 > 0)
            right = slow.first_circular(schema)
            self.assertEqual(told(check_schema, schema), ("CircularBut",) + right if right else FINE)
            seen[right is None] += 1
        self.assertGreater(min(seen.values()), 100)


class DependsOnTest(unittest.TestCase):
    def test_nothing(self):
        self.assertEqual(depends_on(doc_with(("see", ONE)), "doc", "see"), [])

    def test_the_sample(self):
        self.assertEqual(depends_on(SCHEMA, "group", "member"), [("group", "member")])
        self.assertEqual(depends_on(SCHEMA, "folder", "see"), [
            ("group", "member"), ("folder", "own"), ("folder", "see")])
        self.assertEqual(depends_on(SCHEMA, "doc", "see"), [
            ("group", "member"), ("folder", "own"), ("folder", "see"), ("doc", "ban"), ("doc", "own"), ("doc", "see")])

    def test_a_right_in_a_ring_depends_on_itself(self):
        schema = doc_with(("see", ("same", "own")), ("own", ("same", "edit")), ("edit", ("same", "see")), ("ban", ONE))
        for name in ("see", "own", "edit"):
            self.assertEqual(depends_on(schema, "doc", name), [("doc", "see"), ("doc", "own"), ("doc", "edit")])

    def test_a_right_that_leads_to_a_ring_does_not(self):
        schema = doc_with(("own", ("same", "see")), ("see", ("same", "see")))
        self.assertEqual(depends_on(schema, "doc", "own"), [("doc", "see")])

    def test_a_through_names_the_right_of_all_kinds_of_the_link(self):
        schema = doc_with(("edit", ("through", "up", "see")), ("see", ONE))
        self.assertEqual(depends_on(schema, "doc", "edit"), [("doc", "see"), ("dir", "see")])
        self.assertEqual(depends_on(schema[::-1], "doc", "edit"), [("dir", "see"), ("doc", "see")])

    def test_second_parts_of_buts_count(self):
        schema = doc_with(("own", ONE), ("ban", ONE), ("see", ("but", ("same", "own"), ("same", "ban"))))
        self.assertEqual(depends_on(schema, "doc", "see"), [("doc", "own"), ("doc", "ban")])

    def test_by_keyword_and_new_each_time(self):
        first = depends_on(relation="see", kind="doc", schema=SCHEMA)
        first.append(None)
        self.assertNotIn(None, depends_on(SCHEMA, "doc", "see"))

    def test_against_the_slow_way(self):
        chance = random.Random(12)
        for _ in range(150):
            schema = some_schema(chance)
            for right in slow.rights_in(schema):
                self.assertEqual(depends_on(schema, *right), slow.depended_on(schema, right))

    def test_wrong_kinds(self):
        for kind in odd_values() + ["user", "bot", "none", GREAT, ("doc", 5)]:
            for relation in ("see", "none", []):
                self.assertEqual(told(depends_on, SCHEMA, kind, relation)[0], "InvalidKind")
                self.assertIs(told(depends_on, SCHEMA, kind, relation)[1], kind)

    def test_wrong_relations(self):
        for relation in odd_values() + ["in", "member", "none", GREAT]:
            answer = told(depends_on, SCHEMA, "doc", relation)
            self.assertEqual(answer[0], "InvalidRelation")
            self.assertIs(answer[1], relation)

    def test_the_schema_is_first(self):
        self.assertEqual(told(depends_on, None, None, None), ("InvalidSchema", ()))
        ring = doc_with(("see", ("but", ("through", "up", "own"), ("same", "see"))), ("own", ONE))
        self.assertEqual(told(depends_on, ring, None, None), ("CircularBut", "doc", "see"))


class StrataTest(unittest.TestCase):
    def test_no_rights(self):
        self.assertEqual(strata((("user", ()),)), [[]])
        self.assertEqual(strata((("doc", (("up", ("links", ("doc",))),)),)), [[]])

    def test_one_level(self):
        schema = doc_with(("see", ("same", "own")), ("own", ("through", "up", "see")))
        self.assertEqual(strata(schema), [[("doc", "see"), ("doc", "own"), ("dir", "see"), ("dir", "own")]])

    def test_the_sample(self):
        self.assertEqual(strata(SCHEMA), [
            [("group", "member"), ("folder", "own"), ("folder", "see"), ("doc", "ban"), ("doc", "own")],
            [("doc", "see"), ("doc", "edit")],
        ])

    def test_a_chain_of_buts_over_many_levels(self):
        names = ["r" + sign for sign in "abcdef"]
        rows = []
        for kind, below in (("dir", None), ("doc", "dir"), ("team", "doc"), ("box", "team"), ("bag", "box")):
            first = ANY if below is None else ("direct", (("who", below, "rf"),))
            entries = [("ra", first if below is None else ("but", ("same", "ra"), first))]
            for k in range(1, 6):
                entries.append((names[k], ("but", ("same", names[k]), ("same", names[k - 1]))))
            rows.append((kind, tuple(entries)))
        expected = [[(kind, name)] for kind, _ in rows for name in names]
        self.assertEqual(strata((("user", ()),) + tuple(rows)), expected)
        self.assertEqual(strata(tuple(rows[::-1]) + (("user", ()),)), expected)

    def test_a_level_is_not_less_than_those_that_are_named(self):
        schema = doc_with(("edit", ("same", "see")), ("see", ("but", ("same", "own"), ("same", "ban"))),
                          ("own", ONE), ("ban", ONE))
        self.assertEqual(strata(schema), [
            [("doc", "own"), ("doc", "ban"), ("dir", "see"), ("dir", "own")], [("doc", "edit"), ("doc", "see")]])

    def test_an_inner_but_counts_once_for_each_right(self):
        inner = ("but", ("same", "own"), ("but", ("same", "own"), ("same", "ban")))
        schema = (("user", ()), ("doc", (("own", ONE), ("ban", ONE), ("see", inner))))
        self.assertEqual(strata(schema), [[("doc", "own"), ("doc", "ban")], [("doc", "see")]])

    def test_against_the_slow_way(self):
        chance = random.Random(13)
        highest = 0
        for _ in range(150):
            schema = some_schema(chance)
            levels = slow.levels_of(schema)
            found = strata(schema)
            highest = max(highest, len(found))
            self.assertEqual(len(found), max(levels.values()) + 1)
            for level, rights in enumerate(found):
                self.assertEqual(rights, [right for right in slow.rights_in(schema) if levels[right] == level])
        self.assertGreater(highest, 2)

    def test_every_list_is_new(self):
        found = strata(schema=SCHEMA)
        found[0].clear()
        found.clear()
        self.assertEqual(len(strata(SCHEMA)), 2)

    def test_wrong_schemas(self):
        self.assertEqual(told(strata, []), ("InvalidSchema", ()))
        self.assertEqual(told(strata, (("doc", (("see", ("but", ("same", "see"), ("same", "see"))),)),)),
                         ("CircularBut", "doc", "see"))


if __name__ == "__main__":
    unittest.main()
