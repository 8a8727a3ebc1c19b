"""[1.1] check_schema: what a schema is, and which error is raised where it is none."""

import unittest

from relatedrights.schemas import check_schema
from tests.samples import (
    ANY, FOLDER, GROUP, ONE, SCHEMA, at_path, deep_list, deep_rule, deep_tuple, odd_values, paths_of, replaced, told,
)

FINE = ("fine", None)


def wrong(*path):
    return ("InvalidSchema", path)


def with_rule(rule):
    """A schema in which the fourth relation of the second kind has this rule."""
    entries = (("up", ("links", ("doc",))), ("own", ONE), ("ban", ANY), ("see", rule))
    return (("user", ()), ("doc", entries), ("bot", ()), GROUP)


class SchemasThatAreFineTest(unittest.TestCase):
    def test_samples(self):
        for schema in (SCHEMA, (("user", ()), GROUP), (("user", ()),), with_rule(ONE)):
            self.assertEqual(told(check_schema, schema), FINE)

    def test_by_keyword(self):
        self.assertIsNone(check_schema(schema=SCHEMA))

    def test_without_bare_kinds(self):
        self.assertEqual(told(check_schema, (("doc", (("up", ("links", ("doc",))),)),)), FINE)
        self.assertEqual(told(check_schema, (("doc", (("see", ("same", "see")),)),)), FINE)

    def test_the_same_names_for_kinds_relations_and_words(self):
        entries = (("direct", ("direct", (("one", "links"),))), ("links", ("links", ("one",))),
                   ("one", ("through", "links", "direct")), ("same", ("same", "same")))
        self.assertEqual(told(check_schema, (("links", ()), ("one", entries), ("who", entries))), FINE)

    def test_greatest_counts(self):
        kinds = ["kind" + sign * 4 for sign in "abcdef"]
        links = ("links", tuple(kinds[:4]))
        entries = tuple(("right" + sign * 3, ("direct", tuple(("who", kind, "rightbbb") for kind in kinds[2:])))
                        for sign in "abcde")
        entries += (("linkaaaa", links),)
        schema = tuple((kind, entries) for kind in kinds)
        self.assertEqual(told(check_schema, schema), FINE)
        self.assertEqual(told(check_schema, schema + (("more", entries),)), wrong())
        longer = replaced(schema, (5, 1), entries + (("more", links),))
        self.assertEqual(told(check_schema, longer), wrong(5))
        self.assertEqual(told(check_schema, replaced(schema, (5, 1, 5, 1), ("links", tuple(kinds[:5])))), wrong(5, 5))
        forms = tuple(("who", kind, "rightaaa") for kind in kinds[1:])
        self.assertEqual(told(check_schema, replaced(schema, (5, 1, 0, 1), ("direct", forms))), wrong(5, 0))
        self.assertEqual(told(check_schema, replaced(schema, (5, 1, 0, 1), ("direct", forms[:4]))), FINE)

    def test_names_of_eight_letters(self):
        for name in ("a", "z", "abcdefgh", "zzzzzzzz"):
            self.assertEqual(told(check_schema, ((name, ()),)), FINE)
            self.assertEqual(told(check_schema, (("doc", ((name, ("links", ("doc",))),)),)), FINE)

    def test_all_rules_of_the_greatest_width_and_depth(self):
        def full(depth):
            return ("same", "own") if depth == 1 else (("either", "both")[depth % 2], (full(depth - 1),) * 4)
        self.assertEqual(told(check_schema, with_rule(full(6))), FINE)
        self.assertEqual(told(check_schema, with_rule(full(7))), wrong(1, 3))


class RowsOfKindsTest(unittest.TestCase):
    def test_number_of_kinds(self):
        for many in range(9):
            schema = tuple(("k" + "abcdefghi"[k], ()) for k in range(many))
            self.assertEqual(told(check_schema, schema), FINE if 1 <= many <= 6 else wrong())

    def test_a_list_is_no_schema_and_no_part_of_one(self):
        for path in paths_of(SCHEMA):
            value = at_path(SCHEMA, path)
            if isinstance(value, tuple):
                expected = path[:1] if len(path) < 3 else (path[0], path[2])
                self.assertEqual(told(check_schema, replaced(SCHEMA, path, list(value))), wrong(*expected))

    def test_bad_rows_of_kinds(self):
        for row in (("doc",), ("doc", (), ()), ("", ()), ("docdocdoc", ()), ("Doc", ()), ("d1", ()), ("d_", ()),
                    ("user", ()), ("doc", []), ("doc", None), ("doc", (("see", ONE),) * 7), (b"doc", ()), "ab", ()):
            self.assertEqual(told(check_schema, (("user", ()), row, ("bot", ()))), wrong(1), row)

    def test_bad_entries_of_kinds(self):
        for entry in (("see",), ("see", ONE, ONE), ("", ONE), ("seeseesee", ONE), ("See", ONE), ("own", ONE),
                      ["see", ONE], "ab", None, (), (5, ONE), (b"see", ONE), (["see"], ONE)):
            schema = (("user", ()), ("doc", (("own", ONE), entry, ("ban", ONE))))
            self.assertEqual(told(check_schema, schema), wrong(1, 1), entry)

    def test_the_same_relation_in_two_kinds(self):
        self.assertEqual(told(check_schema, (("user", ()), ("doc", (("see", ONE),)), ("dir", (("see", ONE),)))), FINE)


class RulesTest(unittest.TestCase):
    def test_links(self):
        for kinds, expected in (
            (("doc",), FINE), (("doc", "group"), FINE), ((), wrong(1, 3)), (("user",), wrong(1, 3)),
            (("doc", "doc"), wrong(1, 3)), (("none",), wrong(1, 3)), (["doc"], wrong(1, 3)), ("doc", wrong(1, 3)),
            (("doc", "bot"), wrong(1, 3)), ((["doc"],), wrong(1, 3)), (("doc", None), wrong(1, 3)),
        ):
            self.assertEqual(told(check_schema, with_rule(("links", kinds))), expected, kinds)

    def test_shapes_of_links(self):
        for rule in (("links",), ("links", ("doc",), ()), ["links", ("doc",)], (b"links", ("doc",)), "links"):
            self.assertEqual(told(check_schema, with_rule(rule)), wrong(1, 3), rule)

    def test_a_link_stands_only_as_a_whole_rule(self):
        self.assertEqual(told(check_schema, with_rule(("either", (ONE, ("links", ("doc",)))))), wrong(1, 3))

    def test_forms(self):
        good = (("one", "user"), ("all", "user"), ("one", "bot"), ("all", "bot"), ("who", "group", "member"),
                ("who", "doc", "see"), ("who", "doc", "own"))
        for form in good:
            self.assertEqual(told(check_schema, with_rule(("direct", (form,)))), FINE, form)
        for form in (("one", "doc"), ("all", "doc"), ("one", "none"), ("one",), ("one", "user", "user"),
                     ("one", "user", "user", "user"), ("all", "bot", "bot", "bot"), ("some", "user"), ("who", "group"), ("who", "group", "member", "member"),
                     ("who", "user", "member"), ["one", "user"], ("who", "doc", "up"),
                     ("who", "doc", "member"), ("who", "none", "see"), ("one", ["user"]), "one",
                     ("who", ["doc"], "see"), ("who", "doc", ["see"]), (["one"], "user"), (), ("one", 5), None):
            for forms in ((form,), (("one", "user"), form), (form, ("one", "user"))):
                self.assertEqual(told(check_schema, with_rule(("direct", forms))), wrong(1, 3), form)
        for form in good:
            self.assertEqual(told(check_schema, with_rule(("direct", (form, form)))), wrong(1, 3), form)
        for forms in ((), good[:5], [("one", "user")], {"one": "user"}, None, "one"):
            self.assertEqual(told(check_schema, with_rule(("direct", forms))), wrong(1, 3), forms)
        self.assertEqual(told(check_schema, with_rule(("direct", good[:4]))), FINE)

    def test_same(self):
        for rule in (("same", "own"), ("same", "see")):
            self.assertEqual(told(check_schema, with_rule(rule)), FINE)
        for rule in (("same",), ("same", "own", "own"), ("same", "up"), ("same", "member"), ("same", "none"),
                     ("same", ["own"]), ["same", "own"], ("same", ""), ("Same", "own"), (["same"], "own")):
            self.assertEqual(told(check_schema, with_rule(rule)), wrong(1, 3), rule)

    def test_through(self):
        for rule in (("through", "up", "own"), ("through", "up", "see")):
            self.assertEqual(told(check_schema, with_rule(rule)), FINE)
        for rule in (("through", "up"), ("through", "up", "own", "own"), ("through", "own", "see"),
                     ("through", "up", "up"), ("through", "up", "member"), ("through", "no", "own"),
                     ("through", ["up"], "own"), ("through", "up", ["own"]),
                     ("through", "up", None), ["through", "up", "own"]):
            self.assertEqual(told(check_schema, with_rule(rule)), wrong(1, 3), rule)

    def test_through_wants_the_right_in_each_kind_of_the_link(self):
        link = ("in", ("links", ("folder", "doc")))
        for name, expected in (("own", FINE), ("see", FINE), ("up", wrong(3, 1)), ("edit", wrong(3, 1))):
            doc = ("doc", (link, ("view", ("through", "in", name)), ("own", ONE), ("see", ONE), ("edit", ONE)))
            self.assertEqual(told(check_schema, (("user", ()), GROUP, FOLDER, doc)), expected, name)

    def test_either_and_both(self):
        one = ("same", "own")
        for word in ("either", "both"):
            for many in range(7):
                expected = FINE if 2 <= many <= 4 else wrong(1, 3)
                self.assertEqual(told(check_schema, with_rule((word, (one,) * many))), expected)
            for rule in ((word,), (word, (one, one), one), (word, one, one), (word, [one, one]), (word, {}),
                         (word, "ab"), (word, (one, None)), (word, (None, one)), (word, (one, list(one)))):
                self.assertEqual(told(check_schema, with_rule(rule)), wrong(1, 3), rule)

    def test_but(self):
        one, two = ("same", "own"), ("same", "ban")
        self.assertEqual(told(check_schema, with_rule(("but", one, two))), FINE)
        for rule in (("but",), ("but", one), ("but", (one, two)), ("but", one, two, two), ("but", one, None),
                     ("but", None, two), ["but", one, two], ("but", one, list(two))):
            self.assertEqual(told(check_schema, with_rule(rule)), wrong(1, 3), rule)

    def test_other_words(self):
        for rule in (("any", (ONE, ONE)), ("", ONE), ("none",), (), (None, None), (ONE,), ONE + ONE):
            self.assertEqual(told(check_schema, with_rule(rule)), wrong(1, 3), rule)

    def test_at_most_one_direct_part(self):
        one, two = ("same", "own"), ("same", "ban")
        for rule in (("either", (ONE, ANY)), ("both", (ONE, ONE)), ("but", ONE, ANY),
                     ("either", (("both", (one, ONE)), ("but", two, ANY)))):
            self.assertEqual(told(check_schema, with_rule(rule)), wrong(1, 3), rule)
        self.assertEqual(told(check_schema, with_rule(("either", (("but", one, ONE), two)))), FINE)

    def test_six_levels_and_one_more(self):
        for word in ("either", "both", "but"):
            for levels in range(1, 10):
                expected = FINE if levels <= 6 else wrong(1, 3)
                self.assertEqual(told(check_schema, with_rule(deep_rule(word, levels))), expected)

    def test_depth_counts_in_every_part(self):
        for levels, expected in ((5, FINE), (6, wrong(1, 3))):
            deep = deep_rule("both", levels)
            for rule in (("but", ("same", "own"), deep), ("either", (("same", "own"), ("same", "own"), deep))):
                self.assertEqual(told(check_schema, with_rule(rule)), expected)

    def test_thousands_of_levels(self):
        for word in ("either", "both", "but"):
            for levels in (1000, 50000):
                self.assertEqual(told(check_schema, with_rule(deep_rule(word, levels))), wrong(1, 3))
        for value in (deep_tuple(50000), deep_list(50000)):
            self.assertEqual(told(check_schema, with_rule(value)), wrong(1, 3))
            self.assertEqual(told(check_schema, with_rule(("same", value))), wrong(1, 3))
            self.assertEqual(told(check_schema, with_rule(("direct", (value,)))), wrong(1, 3))


class OddValuesTest(unittest.TestCase):
    def test_other_objects_in_the_place_of_the_schema(self):
        for value in odd_values():
            entries = isinstance(value, tuple) and 1 <= len(value) <= 6
            self.assertEqual(told(check_schema, value), wrong(0) if entries else wrong())

    def test_other_objects_behind_a_schema_that_was_asked_for_before(self):
        self.assertIsNone(check_schema(SCHEMA))
        for path in paths_of(SCHEMA):
            here = at_path(SCHEMA, path)
            if isinstance(here, tuple):
                self.assertNotEqual(told(check_schema, replaced(SCHEMA, path, list(here)))[0], "fine")
            elif here in ("one", "all", "direct", "links", "either", "both", "but", "same", "through", "who"):
                self.assertNotEqual(told(check_schema, replaced(SCHEMA, path, here.encode()))[0], "fine")
            self.assertIsNone(check_schema(replaced(SCHEMA, path, here)))

    def test_other_objects_in_each_place(self):
        for path in paths_of(SCHEMA)[1:]:
            for value in odd_values():
                expected = path[:1] if len(path) < 3 else (path[0], path[2])
                if len(path) == 2 and path[1] == 1 and isinstance(value, tuple):
                    expected = (path[0], 0)
                    if value == ():
                        continue
                self.assertEqual(told(check_schema, replaced(SCHEMA, path, value)), wrong(*expected), path)


class WhichErrorComesFirstTest(unittest.TestCase):
    bad = ("same", "none")

    def test_rows_in_their_order(self):
        self.assertEqual(told(check_schema, (("user", ()), 5, ("", ()), ())), wrong(1))
        self.assertEqual(told(check_schema, (("user", ()), ("doc", (5, 6)), 7)), wrong(1, 0))
        self.assertEqual(told(check_schema, (("doc", (("own", ONE), 6)), 7)), wrong(0, 1))

    def test_all_rows_ahead_of_all_rules(self):
        self.assertEqual(told(check_schema, (("doc", (("see", self.bad),)), ("user", None))), wrong(1))
        self.assertEqual(told(check_schema, (("doc", (("see", self.bad),)), ("dir", (("see", 5), 5)))), wrong(1, 1))
        self.assertEqual(told(check_schema, (("doc", (("see", self.bad), ("see", ONE))),)), wrong(0, 1))

    def test_rules_in_their_order(self):
        good = ("links", ("doc",))
        self.assertEqual(told(check_schema, (("doc", (("up", good), ("see", self.bad), ("own", 5))),)), wrong(0, 1))
        rows = (("user", ()), ("doc", (("up", good), ("see", self.bad))), ("dir", (("see", 5),)))
        self.assertEqual(told(check_schema, rows), wrong(1, 1))

    def test_all_rules_ahead_of_circular_buts(self):
        ring = ("see", ("but", ONE, ("same", "see")))
        self.assertEqual(told(check_schema, (("user", ()), ("doc", (ring, ("own", self.bad))))), wrong(1, 1))
        self.assertEqual(told(check_schema, (("user", ()), ("doc", (ring,)), ("dir", (("own", 5),)))), wrong(2, 0))
        self.assertEqual(told(check_schema, (("user", ()), ("doc", (ring,)))), ("CircularBut", "doc", "see"))

    def test_a_relation_counts_as_a_link_by_its_first_word(self):
        for rule in (("links",), ("links", 5), ("links", ("none",))):
            self.assertEqual(told(check_schema, (("doc", (("see", ("same", "up")), ("up", rule))),)), wrong(0, 0))

    def test_a_relation_counts_as_a_right_otherwise(self):
        for rule in (("link", ("doc",)), 5, (), [], ("same",), (None,)):
            rows = (("doc", (("see", ("same", "up")), ("up", rule))),)
            self.assertEqual(told(check_schema, rows), wrong(0, 1))
            rows = (("doc", (("see", ("through", "up", "see")), ("up", rule))),)
            self.assertEqual(told(check_schema, rows), wrong(0, 0))

    def test_a_link_that_tells_no_kinds_is_wrong_at_its_own_place(self):
        for rule in (("links",), ("links", 5), ("links", ())):
            rows = (("doc", (("see", ("through", "up", "see")), ("up", rule))),)
            self.assertEqual(told(check_schema, rows), wrong(0, 1))
            for name in (None, ["see"], "", 5):
                rows = (("doc", (("see", ("through", "up", name)), ("up", rule))),)
                self.assertEqual(told(check_schema, rows), wrong(0, 0))

    def test_a_link_that_tells_what_is_no_kind_has_no_right_there(self):
        for entry in ("none", "user", "", ["doc"], ("doc",), 5, None):
            for told_kinds in ((entry,), ("doc", entry), (entry, "doc")):
                link = ("up", ("links", told_kinds))
                rows = (("doc", (("see", ("through", "up", "see")), link)), ("user", ()))
                self.assertEqual(told(check_schema, rows), wrong(0, 0))
                rows = (("doc", (link, ("see", ("through", "up", "see")))), ("user", ()))
                self.assertEqual(told(check_schema, rows), wrong(0, 0))


if __name__ == "__main__":
    unittest.main()
