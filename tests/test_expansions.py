"""[5.1] expand, [5.2] unfold, [5.3] is_in, places, pruned, [5.4] listed, [5.5] things, page, [5.6] compared."""

import unittest

from relatedrights.errors import TooLarge
from relatedrights.expansions import compared, expand, is_in, listed, page, places, pruned, things, unfold
from relatedrights.states import check
from tests.samples import ANY, GREAT, ONE, deep_list, deep_tuple, odd_values, told

ANN, BOB, BOT = ("user", 1), ("user", 2), ("bot", 3)
DOC, FAR = ("doc", 1), ("doc", 2)
EMPTY, ALL = ("set", ()), ("set", (("all", "user"),))
RING = ("ring", DOC, "see")

FORMS = ("direct", (("one", "user"), ("one", "bot"), ("all", "user"), ("who", "doc", "own")))
SCHEMA = (("user", ()), ("bot", ()), ("doc", (
    ("up", ("links", ("doc", "area"))),
    ("own", FORMS),
    ("same", ("same", "own")),
    ("far", ("through", "up", "own")),
    ("any", ("either", (("same", "own"), ("same", "far")))),
    ("both", ("both", (("same", "own"), ("through", "up", "own"), ("same", "any")))),
)), ("area", (("own", ANY),)))


def gives(user, thing=DOC, relation="own"):
    return (thing, relation, ("one", user))


STATE = [gives(BOB), gives(ANN), (DOC, "own", ("who", ("doc", 10), "own")), (DOC, "own", ("all", "user")), gives(BOT),
         (DOC, "own", ("who", FAR, "own")), (DOC, "up", ("one", ("doc", 10))), (DOC, "up", ("one", ("area", 4))),
         (DOC, "up", ("one", FAR))]
OWN = ("any", (("set", (("all", "user"), ("one", BOT), ("one", ANN), ("one", BOB))),
               ("users", FAR, "own"), ("users", ("doc", 10), "own")))
THROUGH = ("any", (("users", ("area", 4), "own"), ("users", FAR, "own"), ("users", ("doc", 10), "own")))


class ExampleTest(unittest.TestCase):
    def test_the_example_of_the_document(self):
        schema = (("user", ()), ("doc", (
            ("up", ("links", ("doc",))), ("see", ("either", (("direct", (("one", "user"),)), ("through", "up", "see")))))))
        doc = ("doc", 1)
        tree = unfold(schema, [(doc, "up", ("one", doc)), (doc, "see", ("one", ("user", 7)))], doc, "see")
        self.assertEqual([tree, pruned(tree), places(tree, ("user", 7))], [
            ("open", ("doc", 1), "see", ("any", (("any", (("set", (("one", ("user", 7)),)),)),
                                                 ("any", (("ring", ("doc", 1), "see"),))))),
            ("open", ("doc", 1), "see", ("set", (("one", ("user", 7)),))), [(0, 0, 0)]])


class ExpandTest(unittest.TestCase):
    def test_rules_of_all_forms(self):
        expected = {
            "own": OWN, "same": ("users", DOC, "own"), "far": THROUGH,
            "any": ("any", (("users", DOC, "own"), ("users", DOC, "far"))),
            "both": ("both", (("users", DOC, "own"), THROUGH, ("users", DOC, "any"))),
        }
        for name, tree in expected.items():
            for state in (STATE, STATE[::-1], tuple(STATE + STATE[2:]), sorted(STATE)):
                self.assertEqual(expand(SCHEMA, state, DOC, name), tree)
        schema = (("user", ()), ("doc", (("up", ("links", ("doc",))), ("own", ONE), ("far", ("through", "up", "own")),
                                         ("but", ("but", ("either", (("same", "own"), ANY)), ("same", "far"))))))
        self.assertEqual(expand(schema, [], DOC, "but"), (
            "but", ("any", (("users", DOC, "own"), ("any", (EMPTY,)))), ("users", DOC, "far")))

    def test_nothing_there(self):
        self.assertEqual(expand(SCHEMA, [], DOC, "own"), ("any", (EMPTY,)))
        self.assertEqual(expand(SCHEMA, [], DOC, "far"), ("any", ()))
        self.assertEqual(expand(SCHEMA, STATE, ("doc", 99), "own"), ("any", (EMPTY,)))

    def test_wrong_values(self):
        self.assertEqual(told(expand, SCHEMA, STATE, ANN, "own"), ("InvalidObject", ANN))
        self.assertEqual(told(unfold, SCHEMA, STATE, DOC, "up"), ("InvalidRelation", "up"))


class UnfoldTest(unittest.TestCase):
    def test_rights_within_rights(self):
        far = ("open", FAR, "own", ("any", (EMPTY,)))
        ten = ("open", ("doc", 10), "own", ("any", (EMPTY,)))
        own = ("open", DOC, "own", ("any", (OWN[1][0], far, ten)))
        area = ("open", ("area", 4), "own", ("any", (EMPTY,)))
        through = ("open", DOC, "far", ("any", (area, far, ten)))
        self.assertEqual(unfold(SCHEMA, STATE, DOC, "own"), own)
        self.assertEqual(unfold(SCHEMA, STATE, DOC, "far"), through)
        self.assertEqual(unfold(SCHEMA, STATE, DOC, "any"), ("open", DOC, "any", ("any", (own, through))))

    def test_rings(self):
        schema = (("user", ()), ("doc", (("a", ("same", "b")), ("b", ("same", "a")), ("c", ("same", "a")))))
        ring = ("open", DOC, "a", ("open", DOC, "b", ("ring", DOC, "a")))
        self.assertEqual(unfold(schema, [], DOC, "a"), ring)
        self.assertEqual(unfold(schema, [], DOC, "c"), ("open", DOC, "c", ring))
        # A right that stands beside a place, not around it, is unfolded there once more.
        twice = (("user", ()), ("doc", (("own", ONE), ("see", ("both", (("same", "own"), ("same", "own")))))))
        own = ("open", DOC, "own", ("any", (("set", (("one", ANN),)),)))
        self.assertEqual(unfold(twice, [gives(ANN)], DOC, "see"), ("open", DOC, "see", ("both", (own, own))))

    def chain(self, many):
        """A chain of things, each with an open and an either around the next one, and a set behind them."""
        schema = (("user", ()), ("doc", (("see", ("direct", (("one", "user"), ("who", "doc", "see")))),)))
        return schema, [(("doc", k), "see", ("who", ("doc", k + 1), "see")) for k in range(many - 1)]

    def test_a_path_of_200_places_and_of_201(self):
        # Each thing has two places: its either, and what stands in that.
        schema, state = self.chain(100)
        tree = unfold(schema, state, ("doc", 0), "see")
        self.assertEqual(max(len(path) for path in self.paths(tree)), 200)
        schema, state = self.chain(101)
        self.assertEqual(told(unfold, schema, state, ("doc", 0), "see"), ("TooLarge", 3000))
        self.assertEqual(unfold(schema, state, ("doc", 1), "see")[:2], ("open", ("doc", 1)))
        same = (("user", ()), ("doc", (("own", ("same", "see")), ("see", schema[1][1][0][1]))))
        state = self.chain(100)[1]
        self.assertEqual(told(unfold, same, state, ("doc", 0), "own"), ("TooLarge", 3000))

    def paths(self, tree):
        found, waiting = [], [((), tree)]
        while waiting:
            path, one = waiting.pop()
            found.append(path)
            inner = one[1] if one[0] in ("any", "both") else one[1:] if one[0] == "but" else one[3:]
            waiting.extend([(path + (k,), part) for k, part in enumerate(inner if one[0] != "set" else ())])
        return found

    def test_3000_trees_and_one_more(self):
        schema = (("user", ()), ("doc", (("own", ONE), ("see", ("direct", (("one", "user"), ("who", "doc", "own")))),
                                         ("more", ("either", (("same", "see"), ("direct", (("who", "doc", "own"),)))))))
                  )
        for many, extra in ((998, 0), (999, 0), (998, 1), (998, 2)):
            # An open, an either and a set; for each other thing an open, an either and a set.
            state = [(DOC, "see", ("who", ("doc", k), "own")) for k in range(10, 10 + many)]
            size = 3 + 3 * many
            self.assertEqual(len(self.paths(unfold(schema, state, DOC, "see"))) if size <= 3000 else 0,
                             size if size <= 3000 else 0)
            self.assertEqual(told(unfold, schema, state, DOC, "see")[0], "fine" if size <= 3000 else "TooLarge")
        # The open and the either of `more`, and its own either and set, are four more.
        state = [(DOC, "see", ("who", ("doc", k), "own")) for k in range(10, 10 + 997)]
        self.assertEqual(len(self.paths(unfold(schema, state, DOC, "more"))), 3 + 3 * 997 + 4)
        state.append((DOC, "see", ("who", ("doc", 9), "own")))
        self.assertEqual(told(unfold, schema, state, DOC, "more"), ("TooLarge", 3000))

    def test_a_tree_that_would_grow_without_end(self):
        rule = ("both", (("through", "up", "see"),) * 4)
        schema = (("user", ()), ("doc", (("up", ("links", ("doc",))), ("see", ("either", (ONE, rule))))))
        state = [(("doc", k), "up", ("one", ("doc", k + 1))) for k in range(30)]
        with self.assertRaises(TooLarge):
            unfold(schema, state, ("doc", 0), "see")


class WholeTreesTest(unittest.TestCase):
    def wrong(self, tree, path):
        for function, more in ((is_in, [5]), (places, [5]), (pruned, [])):
            self.assertEqual(told(function, tree, *more), ("InvalidTree", path))

    def test_trees_of_all_forms(self):
        one = ("set", (("one", ANN),))
        for tree, users in ((EMPTY, []), (RING, []), (ALL, [ANN, BOB]), (one, [ANN]), (("any", ()), []),
                            (("any", (one, EMPTY)), [ANN]), (("both", (ALL, one)), [ANN]), (("both", (ALL,)), [ANN, BOB]),
                            (("but", ALL, one), [BOB]), (("open", DOC, "see", ALL), [ANN, BOB]), (("but", one, ALL), [])):
            self.assertEqual([user for user in (ANN, BOB, BOT) if is_in(tree, user)], users)

    def test_any_names_of_kinds_and_relations(self):
        tree = ("open", ("zoo", 10 ** 30), "lions", ("set", (("all", "cats"), ("one", ("cats", GREAT)))))
        self.assertIs(is_in(tree, ("cats", GREAT + 1)), True)
        self.assertIs(is_in(tree, ("dogs", 1)), False)
        self.assertEqual(places(tree, ("cats", GREAT)), [(0,)])
        self.assertEqual(pruned(tree), tree)

    def test_what_is_no_tree(self):
        for tree in (None, "set", (), ("set",), ("set", ()) + ((),), ("set", []), ["set", ()], ("any",), ("any", []),
                     ("any", (), ()), ("both", ()), ("both", [EMPTY]), ("but", EMPTY), ("but", EMPTY, EMPTY, EMPTY),
                     ("open", DOC, "see"), ("open", DOC, EMPTY), ("open", ("doc", -1), "see", EMPTY), ("ring", DOC),
                     ("open", ("doc", True), "see", EMPTY), ("open", ("Doc", 1), "see", EMPTY), ("ring", ["doc", 1], "see"),
                     ("open", DOC, "See", EMPTY), ("ring", DOC, "toolonger"), ("ring", DOC, ""), ("ring", DOC, "see", EMPTY),
                     ("none", ()), ("users", DOC, "see"), ("ring", ("doc", 1, 1), "see"), (b"set", ()), ("", ())):
            self.wrong(tree, ())
            self.wrong(("any", (EMPTY, ("open", DOC, "see", tree), 5)), (1, 0))
            self.wrong(("but", ALL, tree), (1,))

    def test_what_are_no_subjects(self):
        for subjects in ((("one", ANN), ("all", "user")), (("one", BOB), ("one", ANN)), (("one", ANN), ("one", ANN)),
                         (("all", "user"), ("all", "user")), (("all", "user"), ("all", "bot")), (("one", "user"),),
                         (("all", ANN),), (("one", ("user", True)),), (("one", ("user", -1)),), (("one", ("User", 1)),),
                         (("all", "User"),), (("all", ""),), (["all", "user"],), (("one", ["user", 1]),), ("all", "user"),
                         (("who", DOC, "see"),), (("all",),), (("one", ANN, 1),), (None,), (("two", ANN),), (("", ANN),)):
            self.wrong(("set", subjects), ())
            self.wrong(("both", (ALL, ("set", subjects))), (1,))
        self.assertEqual(pruned(("set", (("all", "bot"), ("all", "user"), ("one", BOT), ("one", ANN)))),
                         ("set", (("all", "bot"), ("all", "user"), ("one", BOT), ("one", ANN))))

    def test_the_first_path_in_reading_order(self):
        users = ("users", DOC, "see")
        self.wrong(("any", (EMPTY, ("any", (EMPTY, users)), users)), (1, 1))
        self.wrong(("but", ("open", DOC, "see", users), 5), (0, 0))
        # Whatever stands further down: it is the tree itself that is wrong.
        self.wrong(("any", [users]), ())
        self.wrong(("but", 1, 2, 3), ())
        self.wrong(("open", DOC, 5, users), ())

    def nested(self, places_down, inner=EMPTY):
        tree = inner
        for _ in range(places_down):
            tree = ("any", (tree,))
        return tree

    def test_200_places_one_more_and_5000(self):
        self.assertEqual(places(self.nested(200, ALL), ANN), [(0,) * 200])
        self.assertEqual(pruned(self.nested(200, ALL)), ALL)
        self.wrong(self.nested(201), (0,) * 201)
        self.wrong(self.nested(5000), (0,) * 201)
        self.wrong(("but", EMPTY, self.nested(5000)), (1,) + (0,) * 200)
        self.wrong(self.nested(200, 5), (0,) * 200)
        opened = EMPTY
        for _ in range(5000):
            opened = ("open", DOC, "see", opened)
        self.wrong(opened, (0,) * 201)

    def test_3000_trees_and_one_more(self):
        self.assertEqual(len(places(("any", (ALL,) * 2999), ANN)), 2999)
        self.assertIsNone(pruned(("any", (RING,) * 2999)))
        self.wrong(("any", (ALL,) * 3000), (2999,))
        self.wrong(("any", (ALL,) * 100000), (2999,))
        self.wrong(("any", (ALL,) * 2999 + (5,)), (2999,))
        self.wrong(("any", (ALL,) * 2998 + (("any", (EMPTY, EMPTY)), 5)), (2998, 0))
        self.wrong(("both", (("any", (ALL,) * 2998), EMPTY, EMPTY)), (1,))

    def test_deep_objects_and_odd_ones(self):
        for odd in odd_values() + [deep_tuple(), deep_list()]:
            self.wrong(odd, ())
            self.wrong(("any", (ALL, odd)), (1,))
            for tree in (("set", (odd,)), ("set", (("one", odd),)), ("set", (("all", odd),)), ("ring", odd, "see"),
                         ("ring", DOC, odd), ("open", odd, "see", EMPTY), ("ring", (odd, 1), "see"), (odd, EMPTY),
                         ("ring", ("doc", odd), "see"), ("both", [odd])):
                self.wrong(tree, ())
            self.assertEqual(told(is_in, ALL, odd), ("InvalidUser", odd))
            self.assertEqual(told(places, ALL, (odd, 1))[0], "InvalidUser")
            self.assertEqual(told(places, ALL, ("user", odd))[0], "InvalidUser")

    def test_the_user_behind_the_tree(self):
        for user in (("User", 1), ("user", -1), ("user", True), ("toolonger", 1), ("user",), ["user", 1], ("user", 1, 1)):
            self.assertEqual(told(is_in, EMPTY, user), ("InvalidUser", user))
            self.assertEqual(told(places, EMPTY, user), ("InvalidUser", user))
            self.assertEqual(told(is_in, ("both", ()), user), ("InvalidTree", ()))


class PlacesAndPrunedTest(unittest.TestCase):
    def test_places(self):
        both = ("both", (("set", (("one", ANN), ("one", BOB))), ALL, EMPTY, ("but", ("set", (("one", BOB),)), ALL)))
        tree = ("any", (both, ("open", DOC, "see", ALL), ("ring", DOC, "see")) + (ALL,) * 9)
        found = [(0, 0), (0, 1), (0, 3, 1), (1, 0)] + [(k,) for k in range(3, 12)]
        self.assertEqual(places(tree, ANN), found)
        self.assertEqual(places(tree, BOB), found[:2] + [(0, 3, 0)] + found[2:])
        self.assertEqual(places(tree, BOT), [])
        self.assertEqual(places(ALL, ANN), [()])

    def test_what_is_left_out(self):
        one, two = ("set", (("one", ANN),)), ("set", (("one", BOB),))
        for tree, less in (
            (EMPTY, None), (RING, None), (one, one), (("any", ()), None), (("any", (one,)), one),
            (("any", (EMPTY, one, RING)), one), (("any", (one, EMPTY, two)), ("any", (one, two))),
            (("any", (one, one)), ("any", (one, one))), (("any", (EMPTY, RING)), None), (("both", (one,)), one),
            (("both", (one, two)), ("both", (one, two))), (("both", (one, EMPTY, two)), None), (("both", (EMPTY,)), None),
            (("but", one, two), ("but", one, two)), (("but", EMPTY, two), None), (("but", one, RING), one),
            (("but", RING, RING), None), (("but", one, one), ("but", one, one)),
            (("open", DOC, "see", one), ("open", DOC, "see", one)), (("open", DOC, "see", EMPTY), None),
            (("both", (("any", (EMPTY, one)), ("but", two, ("any", ())))), ("both", (one, two))),
            (("open", DOC, "see", ("any", (("both", (one,)), RING))), ("open", DOC, "see", one)),
        ):
            self.assertEqual(pruned(tree), less)


class ListsTest(unittest.TestCase):
    def test_listed(self):
        forms = ("direct", (("one", "user"), ("one", "bot"), ("all", "user"), ("all", "bot")))
        schema = (("user", ()), ("bot", ()), ("ant", ()), ("doc", (
            ("own", forms), ("ban", forms), ("see", ("but", ("same", "own"), ("same", "ban"))))))
        state = [gives(BOB), gives(ANN), gives(BOT)]
        self.assertEqual(listed(schema, state, DOC, "see"), [("one", BOT), ("one", ANN), ("one", BOB)])
        self.assertEqual(listed(schema, [], DOC, "see"), [])
        everyone = [(DOC, "own", ("all", "user"))]
        self.assertEqual(listed(schema, everyone, DOC, "see"), [("all", "user", ())])
        bans = [gives(("user", 10), DOC, "ban"), gives(BOB, DOC, "ban"), gives(("user", 7), FAR)]
        self.assertEqual(listed(schema, everyone + state + bans, DOC, "see"),
                         [("one", BOT), ("all", "user", (BOB, ("user", 10)))])
        self.assertEqual(listed(schema, everyone + state + bans, DOC, "ban"), [("one", BOB), ("one", ("user", 10))])
        nobody = everyone + state + [(DOC, "ban", ("all", "user"))]
        self.assertEqual(listed(schema, nobody, DOC, "see"), [("one", BOT)])

    def test_things_and_pages(self):
        schema = (("user", ()), ("doc", (("own", ANY), ("see", ("same", "own")))), ("area", (("see", ANY),)))
        state = [gives(ANN, ("doc", k)) for k in (10, 9, 100, 1, 30)] + [gives(BOB, ("doc", 2)), gives(ANN, ("area", 5), "see")]
        found = [("doc", k) for k in (1, 9, 10, 30, 100)]
        self.assertEqual(things(schema, state, ANN, "doc", "see"), found)
        self.assertEqual(things(schema, state, ("user", 7), "doc", "see"), [])
        self.assertEqual(page(schema, state, ANN, "doc", "see", 2, None), (found[:2], ("doc", 9)))
        self.assertEqual(page(schema, state, ANN, "doc", "see", 2, ("doc", 9)), (found[2:4], ("doc", 30)))
        self.assertEqual(page(schema, state, ANN, "doc", "see", 2, ("doc", 30)), (found[4:], None))
        self.assertEqual(page(schema, state, ANN, "doc", "see", 2, ("doc", 29)), (found[3:], None))
        self.assertEqual(page(schema, state, ANN, "doc", "see", 5, None), (found, None))
        self.assertEqual(page(schema, state, ANN, "doc", "see", 4, None), (found[:4], ("doc", 30)))
        self.assertEqual(page(schema, state, ANN, "doc", "see", 1, ("doc", 0)), (found[:1], ("doc", 1)))
        self.assertEqual(page(schema, state, ANN, "doc", "see", GREAT, ("doc", GREAT)), ([], None))
        self.assertEqual(page(schema, state, ("user", 7), "doc", "see", 1, None), ([], None))

    def test_wrong_pages(self):
        schema = (("user", ()), ("doc", (("see", ANY),)), ("area", (("see", ANY),)))
        for size in (0, -1, True, None, "1", [1]):
            self.assertEqual(told(page, schema, [], ANN, "doc", "see", size, None), ("InvalidNumber", "size"))
        for after in (("area", 1), ("user", 1), ("doc", -1), ("doc", True), ["doc", 1], 1, False, "doc", (), ("doc", 1, 1)):
            self.assertEqual(told(page, schema, [], ANN, "doc", "see", 1, after), ("InvalidNumber", "after"))
        for kind in ("user", "none", "", None, ["doc"]):
            self.assertEqual(told(things, schema, [], ANN, kind, "see"), ("InvalidKind", kind))
            self.assertEqual(told(page, schema, [], ANN, kind, "no", 0, 0), ("InvalidKind", kind))
        self.assertEqual(told(things, schema, [], ANN, "doc", "own"), ("InvalidRelation", "own"))

    def test_compared(self):
        schema = (("user", ()), ("bot", ()), ("doc", (
            ("own", ("direct", (("one", "user"), ("one", "bot"), ("all", "user"), ("all", "bot")))),
            ("ban", ONE), ("see", ("but", ("same", "own"), ("same", "ban"))))))
        one, two = [gives(ANN)], [gives(ANN), gives(BOB)]
        everyone = [(DOC, "own", ("all", "user"))]
        far = lambda rows: [(FAR, "own", row[2]) for row in rows]  # noqa: E731
        for rows, others, word, back in (
            ([], [], "same", "same"), (one, one, "same", "same"), (one, two, "less", "more"), ([], one, "less", "more"),
            (one, [gives(BOB)], "apart", "apart"), (two, [gives(BOB), gives(BOT)], "cross", "cross"),
            (everyone, two, "more", "less"), (everyone, everyone + one, "same", "same"),
            (everyone, [(DOC, "own", ("all", "bot"))], "apart", "apart"), (everyone, [gives(BOT)], "apart", "apart"),
            (everyone, [gives(BOT), gives(ANN)], "cross", "cross"), (everyone + [gives(BOT)], everyone, "more", "less"),
        ):
            state = rows + far(others)
            self.assertEqual(compared(schema, state, DOC, "own", FAR, "own"), word)
            self.assertEqual(compared(schema, state, FAR, "own", DOC, "own"), back)
        self.assertEqual(compared(schema, two + everyone, DOC, "own", DOC, "own"), "same")
        banned = everyone + [gives(ANN, DOC, "ban")]
        self.assertEqual(compared(schema, banned, DOC, "see", DOC, "own"), "less")
        self.assertEqual(compared(schema, banned, DOC, "see", DOC, "ban"), "apart")
        self.assertEqual(compared(schema, banned, ("doc", 9), "see", DOC, "ban"), "less")
        self.assertEqual(told(compared, schema, [], DOC, "own", ANN, "own"), ("InvalidObject", ANN))
        self.assertEqual(told(compared, schema, [], DOC, "own", FAR, "up"), ("InvalidRelation", "up"))

    def test_long_chains(self):
        schema = (("user", ()), ("doc", (("see", ("direct", (("one", "user"), ("who", "doc", "see")))),)))
        state = [(("doc", k), "see", ("who", ("doc", k + 1), "see")) for k in range(900)] + [gives(ANN, ("doc", 900), "see")]
        self.assertEqual(listed(schema, state, ("doc", 0), "see"), [("one", ANN)])
        self.assertEqual(len(things(schema, state, ANN, "doc", "see")), 901)
        self.assertEqual(compared(schema, state, ("doc", 0), "see", ("doc", 900), "see"), "same")
        self.assertIs(check(schema, state, ("doc", 0), "see", ANN), True)


if __name__ == "__main__":
    unittest.main()
