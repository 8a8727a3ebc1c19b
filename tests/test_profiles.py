"""[9.1] profiles, [9.2] state_for, can, [9.3] always, never, [9.4] soundest, is_sound, profile_of."""

import unittest

from relatedrights.profiles import (
    always, can, is_sound, never, profile_of, profiles, soundest, state_for,
)
from relatedrights.states import check
from tests.samples import ANY, ONE, deep_list, deep_tuple, odd_values, told

GROUPS = (("user", ()), ("bot", ()), ("team", (("member", ("direct", (("one", "user"), ("who", "team", "member")))),)),
          ("doc", (("up", ("links", ("doc", "team"))), ("own", ("direct", (("who", "team", "member"),))),
                   ("member", ("either", (("same", "own"), ("through", "up", "member")))))))


def rights_had(schema, state, thing, user):
    names = [name for name, rule in dict(schema)[thing[0]] if rule[0] != "links"]
    return tuple(name for name in names if check(schema, state, thing, name, user))


class ExampleTest(unittest.TestCase):
    def test_the_examples_of_the_document(self):
        one = ("direct", (("one", "user"),))
        schema = (("user", ()), ("doc", (("ban", one), ("see", (
            "but", ("direct", (("one", "user"), ("all", "user"))), ("same", "ban"))))))
        self.assertEqual(profiles(schema, "user", "doc"), [(), ("ban",), ("see",)])
        schema = (("user", ()), ("dir", (("up", ("links", ("dir",))), ("own", ("direct", (("one", "user"),))),
                                         ("see", ("either", (("same", "own"), ("through", "up", "see")))),
                                         ("lost", ("through", "up", "lost")))))
        self.assertEqual([always(schema, "user", "dir", "own", "see"), always(schema, "user", "dir", "see", "own"),
                          never(schema, "user")], [True, False, [("dir", "lost")]])


class ProfilesTest(unittest.TestCase):
    def test_shorter_ones_first_then_ascending(self):
        schema = (("user", ()), ("doc", (("zz", ONE), ("up", ("links", ("doc",))), ("aa", ANY), ("mm", ("both", (
            ("same", "zz"), ("same", "aa")))))))
        self.assertEqual(profiles(schema, "user", "doc"), [(), ("aa",), ("zz",), ("zz", "aa", "mm")])

    def test_forms_of_other_kinds(self):
        schema = (("user", ()), ("bot", ()), ("doc", (("see", ONE), ("edit", ("direct", (("all", "bot"),))))))
        self.assertEqual(profiles(schema, "user", "doc"), [(), ("see",)])
        self.assertEqual(profiles(schema, "bot", "doc"), [(), ("edit",)])
        self.assertEqual(soundest(schema, "bot"), [("doc", ()), ("doc", (("direct", "edit"),))])

    def test_groups_by_groups(self):
        self.assertEqual(profiles(GROUPS, "user", "team"), [(), ("member",)])
        self.assertEqual(profiles(GROUPS, "user", "doc"), [(), ("member",), ("own", "member")])
        # No row tells a bot, so nobody gets it into the first group.
        self.assertEqual(profiles(GROUPS, "bot", "team"), [()])
        self.assertEqual(profiles(GROUPS, "bot", "doc"), [()])
        self.assertEqual(never(GROUPS, "bot"), [("team", "member"), ("doc", "own"), ("doc", "member")])
        self.assertEqual(soundest(GROUPS, "bot"), [("doc", ()), ("team", ())])

    def test_rights_that_only_a_ring_would_ground(self):
        ring = (("user", ()), ("doc", (("up", ("links", ("doc",))), ("see", ("through", "up", "see")), (
            "hide", ("direct", (("who", "doc", "hide"),))))))
        self.assertEqual(profiles(ring, "user", "doc"), [()])
        self.assertEqual(never(ring, "user"), [("doc", "see"), ("doc", "hide")])
        looped = (("doc", (("through", "up", "see"),)),)
        self.assertIs(is_sound(ring, "user", looped), False)
        own = (("user", ()), ("doc", ring[1][1][:1] + (("see", ("either", (("through", "up", "see"), ONE))),)))
        self.assertIs(is_sound(own, "user", looped), False)
        with_own = looped + (("doc", (("direct", "see"),)),)
        self.assertIs(is_sound(own, "user", with_own), True)
        self.assertIs(is_sound(own, "user", with_own[1:]), True)

    def test_what_only_the_same_kind_can_give(self):
        # Who sees must have it from a thing that shows, but does not hide; only the kind itself gives it.
        schema = (("user", ()), ("doc", (("up", ("links", ("doc",))), ("hide", ONE), ("see", ("either", (
            ("but", ("through", "up", "see"), ("through", "up", "hide")), ONE))))))
        self.assertIn(("see",), profiles(schema, "user", "doc"))
        self.assertIn(("hide", "see"), profiles(schema, "user", "doc"))
        self.assertIs(always(schema, "user", "doc", "hide", "see"), False)

    def test_links_to_several_kinds(self):
        # Each thing that is looked through must not give what does not hold by the same link.
        schema = (("user", ()), ("aa", (("see", ONE), ("own", ("same", "see")))), ("bb", (("see", ONE), ("own", ONE))),
                  ("doc", (("up", ("links", ("aa",))), ("in", ("links", ("aa", "bb"))), ("see", ("through", "up", "see")),
                           ("own", ("through", "up", "own")), ("far", ("through", "in", "see")),
                           ("fun", ("through", "in", "own")))))
        found = profiles(schema, "user", "doc")
        self.assertNotIn(("see",), found)
        self.assertNotIn(("own",), found)
        self.assertIn(("see", "own"), found)
        self.assertIn(("far",), found)
        self.assertIn(("fun",), found)
        self.assertIs(always(schema, "user", "doc", "see", "own"), True)
        self.assertIs(always(schema, "user", "doc", "far", "fun"), False)

    def test_kinds_without_rights(self):
        schema = (("user", ()), ("doc", (("up", ("links", ("doc",))),)))
        self.assertEqual(profiles(schema, "user", "doc"), [()])
        self.assertEqual(never(schema, "user"), [])
        self.assertEqual(soundest(schema, "user"), [("doc", ())])
        self.assertIs(is_sound(schema, "user", [("doc", ())]), True)
        self.assertEqual(profile_of(schema, "user", ("doc", ())), ())
        only = (("user", ()), ("bot", ()))
        self.assertEqual(soundest(only, "user"), [])
        self.assertEqual(never(only, "bot"), [])


class StatesTest(unittest.TestCase):
    def shown(self, schema, found, kind, profile):
        state, thing, user = found
        self.assertEqual((type(found), type(state), thing[0], user[0]), (tuple, list, kind, "user"))
        self.assertEqual(rights_had(schema, state, thing, user), profile)

    def test_states_for_profiles(self):
        for kind in ("team", "doc"):
            for profile in profiles(GROUPS, "user", kind):
                self.shown(GROUPS, state_for(GROUPS, "user", kind, profile), kind, profile)
                self.shown(GROUPS, state_for(GROUPS, "user", kind, list(profile[::-1])), kind, profile)
                self.shown(GROUPS, can(GROUPS, "user", kind, profile, []), kind, rights_had(
                    GROUPS, *can(GROUPS, "user", kind, profile, ())))
        self.assertIsNone(state_for(GROUPS, "user", "doc", ["own"]))
        self.assertIsNone(can(GROUPS, "user", "doc", ["own"], ["member"]))
        self.assertIsNone(can(GROUPS, "user", "doc", ["own"], ["own"]))
        self.shown(GROUPS, can(GROUPS, "user", "doc", ("member",), ["own"]), "doc", ("member",))
        self.assertIsNone(can(GROUPS, "bot", "doc", ("member",), []))
        self.assertIsNotNone(can(GROUPS, "bot", "doc", [], ["member", "own"]))

    def test_a_row_for_all_users(self):
        schema = (("user", ()), ("doc", (("see", ("direct", (("all", "user"),))),)))
        state, thing, user = state_for(schema, "user", "doc", ["see"])
        self.assertEqual(state, [(thing, "see", ("all", "user"))])

    def test_what_are_no_rights(self):
        for value in (["up"], ["none"], ["own", "own"], "own", None, {"own"}, {"own": 1}, [["own"]], [1], ("own", 5), 0):
            for kind in ("doc",):
                self.assertEqual(told(state_for, GROUPS, "user", kind, value), ("Mismatch", "profile"))
                self.assertEqual(told(can, GROUPS, "user", kind, value, 5), ("Mismatch", "having"))
                self.assertEqual(told(can, GROUPS, "user", kind, [], value), ("Mismatch", "lacking"))
        for odd in odd_values():
            self.assertEqual(told(state_for, GROUPS, "user", "doc", ["own", odd]), ("Mismatch", "profile"))
            self.assertEqual(told(can, GROUPS, "user", "doc", ["own"], ["own", odd]), ("Mismatch", "lacking"))


class KindsTest(unittest.TestCase):
    def test_what_are_no_kinds(self):
        for bare in ("doc", "none", "", ["user"], ("user",), None, 0, b"user"):
            for function, more in ((profiles, ["none"]), (state_for, [5, 5]), (can, [5, 5, 5]), (always, [5, 5, 5]),
                                   (never, []), (soundest, []), (is_sound, [5]), (profile_of, [5])):
                self.assertEqual(told(function, GROUPS, bare, *more), ("InvalidKind", bare))
        for kind in ("user", "bot", "none", "", ["doc"], ("doc",), None, 0):
            for function, more in ((profiles, []), (state_for, [5]), (can, [5, 5]), (always, [5, 5])):
                self.assertEqual(told(function, GROUPS, "user", kind, *more), ("InvalidKind", kind))

    def test_what_are_no_rights_for_always(self):
        for right in ("up", "none", "", ["own"], None, 5):
            self.assertEqual(told(always, GROUPS, "user", "doc", right, 7), ("InvalidRelation", right))
            self.assertEqual(told(always, GROUPS, "user", "doc", "own", right), ("InvalidRelation", right))


def wide(many, more=0):
    """A schema with two kinds: of so many atoms, and of some more."""
    names = "abcdef"
    links = (("l", ("links", ("doc",))),)
    rules = [(name, ONE) for name in names[:min(many, 5)]]
    for k in range(many - len(rules)):
        rules[k] = (names[k], ("either", (ONE, ("through", "l", names[k]))))
    kinds = (("doc", links + tuple(rules)),)
    if more:
        kinds += (("dir", tuple((name, ONE) for name in names[:more])),)
    return (("user", ()),) + kinds


class TooLargeTest(unittest.TestCase):
    def test_256_configurations_and_more(self):
        self.assertEqual(len(profiles(wide(8), "user", "doc")), 32)
        for schema in (wide(8, 1), wide(9), wide(8, 3)):
            self.assertEqual(told(profiles, schema, "user", "doc"), ("TooLarge", 256))
            self.assertEqual(told(state_for, schema, "user", "doc", []), ("TooLarge", 256))
            self.assertEqual(told(state_for, schema, "user", "doc", ["x"]), ("Mismatch", "profile"))
            self.assertEqual(told(can, schema, "user", "doc", [], []), ("TooLarge", 256))
            self.assertEqual(told(can, schema, "user", "doc", [], [0]), ("Mismatch", "lacking"))
            self.assertEqual(told(always, schema, "user", "doc", "a", "b"), ("TooLarge", 256))
            self.assertEqual(told(always, schema, "user", "doc", "a", "x"), ("InvalidRelation", "x"))
            self.assertEqual(told(never, schema, "user"), ("TooLarge", 256))
            self.assertEqual(told(never, schema, "doc"), ("InvalidKind", "doc"))
            self.assertEqual(told(soundest, schema, "user"), ("TooLarge", 256))
            self.assertEqual(told(is_sound, schema, "user", None), ("TooLarge", 256))
            self.assertEqual(told(is_sound, schema, "user", []), ("TooLarge", 256))
            self.assertEqual(profile_of(schema, "user", ("doc", (("direct", "b"), ("through", "l", "a")))), ("a", "b"))
        self.assertEqual(len(soundest(wide(7, 6), "user")), 192)

    def test_very_many_configurations(self):
        names = ("a", "b", "c", "d", "e", "f")
        links = ("la", "lb", "lc", "ld")
        parts = [("either", tuple(("either", tuple(("through", link, name) for name in some)) for some in (
            names[:3], names[3:]))) for link in links]
        schema = (("user", ()), ("dir", tuple((name, ONE) for name in names)), ("doc", tuple(
            (link, ("links", ("dir",))) for link in links) + (("see", ("either", tuple(parts))), ("edit", ONE))))
        self.assertEqual(told(soundest, schema, "user"), ("TooLarge", 256))
        atoms = (("direct", "edit"),) + tuple(("through", link, name) for link in links for name in names)
        self.assertEqual(profile_of(schema, "user", ("doc", atoms)), ("see", "edit"))
        self.assertEqual(profile_of(schema, "user", ("doc", atoms[:1])), ("edit",))
        self.assertEqual(profile_of(schema, "user", ("doc", atoms[24:])), ("see",))
        self.assertEqual(told(profile_of, schema, "user", ("doc", atoms[1:] + atoms[:1])), ("Mismatch", "configuration"))


class SoundTest(unittest.TestCase):
    SCHEMA = wide(4, 1)
    ALL = [("doc", ()), ("doc", (("direct", "a"),)), ("dir", (("direct", "a"),))]

    def test_lists_tuples_and_any_order(self):
        self.assertIs(is_sound(self.SCHEMA, "user", []), True)
        self.assertIs(is_sound(self.SCHEMA, "user", ()), True)
        self.assertIs(is_sound(self.SCHEMA, "user", self.ALL), True)
        self.assertIs(is_sound(self.SCHEMA, "user", tuple(self.ALL[::-1])), True)
        for entry in self.ALL:
            self.assertIs(is_sound(self.SCHEMA, "user", self.ALL + [entry]), False)
            self.assertIs(is_sound(self.SCHEMA, "user", (entry, entry)), False)
        self.assertIs(is_sound(self.SCHEMA, "user", soundest(self.SCHEMA, "user")[::-1]), True)

    def test_any_object_in_any_place(self):
        for odd in odd_values() + [deep_tuple(), deep_list(), {}, {("doc", ()): 1}]:
            self.assertIs(is_sound(self.SCHEMA, "user", odd), isinstance(odd, (list, tuple)) and len(odd) == 0)
            for entry in (odd, (odd, ()), ("doc", odd), ("doc", (odd,)), ("doc", (("direct", odd),)),
                          ("doc", ((odd, "a"),))):
                fine = entry == ("doc", ())
                self.assertIs(is_sound(self.SCHEMA, "user", [entry]), fine)
                self.assertIs(is_sound(self.SCHEMA, "user", [entry, ("doc", (("direct", "a"),))]), fine)
                if not fine:
                    self.assertEqual(told(profile_of, self.SCHEMA, "user", entry), ("Mismatch", "configuration"))

    def test_what_are_no_configurations(self):
        schema = (("user", ()), ("bot", ()), ("doc", (("l", ("links", ("doc",))), ("a", ONE), ("b", (
            "either", (("through", "l", "b"), ("through", "l", "a")))), ("c", ("direct", (("one", "bot"),))))))
        atoms = (("direct", "a"), ("through", "l", "a"), ("through", "l", "b"))
        for entry in (("user", ()), ("none", ()), ("doc",), ("doc", (), ()), ["doc", ()], ("doc", []), ("doc", (("direct", "c"),)),
                      ("doc", (("direct", "b"),)), ("doc", (("through", "l", "c"),)), ("doc", atoms[::-1]),
                      ("doc", atoms[:1] * 2), ("doc", (["direct", "a"],)), ("doc", "a"), ("doc", (("direct", "a", "a"),))):
            self.assertEqual(told(profile_of, schema, "user", entry), ("Mismatch", "configuration"))
            self.assertIs(is_sound(schema, "user", [entry]), False)
        self.assertEqual(profile_of(schema, "user", ("doc", atoms)), ("a", "b"))
        self.assertEqual(profile_of(schema, "user", ("doc", atoms[::2])), ("a", "b"))
        self.assertEqual(profile_of(schema, "user", ("doc", ())), ())
        self.assertEqual(profile_of(schema, "bot", ("doc", (("direct", "c"),))), ("c",))

    def test_each_of_the_three_rules(self):
        schema = (("user", ()), ("doc", (("l", ("links", ("doc",))), ("a", ("direct", (("who", "doc", "b"),))), ("b", ONE), (
            "c", ("both", (("through", "l", "b"), ("through", "l", "c")))))))
        b = ("doc", (("direct", "b"),))
        friendless = ("doc", (("through", "l", "b"),))
        self.assertIs(is_sound(schema, "user", [b]), True)
        self.assertIs(is_sound(schema, "user", [friendless]), False)
        self.assertIs(is_sound(schema, "user", [friendless, b]), True)
        # By the same link the other right would come, too.
        both = ("doc", (("direct", "b"), ("through", "l", "b"), ("through", "l", "c")))
        self.assertIs(is_sound(schema, "user", [friendless, both]), False)
        told_by = ("doc", (("direct", "a"),))
        self.assertIs(is_sound(schema, "user", [told_by]), False)
        self.assertIs(is_sound(schema, "user", [told_by, b]), True)
        # It would be its own friend for a right that nothing grounds.
        self.assertIs(is_sound(schema, "user", [both]), False)
        self.assertEqual(profile_of(schema, "user", both), ("b", "c"))
        self.assertNotIn(both, soundest(schema, "user"))


if __name__ == "__main__":
    unittest.main()
