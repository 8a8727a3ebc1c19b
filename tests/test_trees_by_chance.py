"""Stage 5 on schemas, states and trees made by chance, compared with the definitions of the document."""

import random
import unittest

from relatedrights.errors import InvalidTree, TooLarge
from relatedrights.expansions import compared, expand, is_in, listed, page, places, pruned, things, unfold
from relatedrights.states import check, named_users
from tests import slow, slow_trees
from tests.samples import at_path, odd_values, paths_of, replaced, told
from tests.slow_rounds import nodes_over
from tests.test_rounds_by_chance import cases

USERS = [("user", 0), ("user", 3), ("bot", 1), ("bot", 50)]


def some_tree(chance, depth):
    """A whole tree over two things, two kinds and three users."""
    word = chance.choice(["set", "set", "ring", "any", "any", "both", "but", "open"] if depth > 0 else ["set", "ring"])
    thing, name = (chance.choice(["doc", "none"]), chance.randrange(2)), chance.choice(["see", "zzz"])
    if word == "set":
        subjects = [("all", "user"), ("all", "bot"), ("one", ("bot", 1)), ("one", ("user", 0)), ("one", ("user", 3))]
        return ("set", tuple(sorted(chance.sample(subjects, chance.choice([0, 0, 1, 1, 2])))))
    if word == "ring":
        return ("ring", thing, name)
    if word == "open":
        return ("open", thing, name, some_tree(chance, depth - 1))
    if word == "but":
        return ("but", some_tree(chance, depth - 1), some_tree(chance, depth - 1))
    many = chance.randint(0 if word == "any" else 1, 3)
    return (word, tuple(some_tree(chance, depth - 1) for _ in range(many)))


class ExpansionsByChanceTest(unittest.TestCase):
    def test_expand_and_unfold(self):
        rings = large = 0
        for chance, schema, state, _, over in cases(51, 120, 50):
            for thing, name in nodes_over(schema, over):
                rule = slow.rule_of(schema, thing[0], name)
                self.assertEqual(expand(schema, state, thing, name), slow_trees.expanded(state, thing, name, rule))
                try:
                    expected = slow_trees.Unfolding(schema, state).tree(thing, name)
                except slow_trees.Large:
                    large += 1
                    with self.assertRaises(TooLarge) as caught:
                        unfold(schema, state, thing, name)
                    self.assertEqual(caught.exception.limit, 3000)
                    continue
                tree = unfold(schema, state, thing, name)
                self.assertEqual(tree, expected)
                self.assertEqual(unfold(schema, state[::-1] + state, thing, name), tree)
                rings += "ring" in repr(tree)
                for user in USERS:
                    self.assertIs(is_in(tree, user), check(schema, state, thing, name, user))
        self.assertGreater(rings, 50)
        self.assertGreater(large, 0)

    def test_lists_of_users_and_things(self):
        for chance, schema, state, user, over in cases(52, 150):
            named = named_users(schema, state)
            rights = nodes_over(schema, over)
            for thing, name in rights:
                entries = []
                for kind in ("bot", "user"):
                    had = [one for one in named if one[0] == kind and check(schema, state, thing, name, one)]
                    lost = [one for one in named if one[0] == kind and one not in had]
                    if check(schema, state, thing, name, (kind, 99)):
                        entries.append(("all", kind, tuple(lost)))
                    else:
                        entries.extend([("one", one) for one in had])
                self.assertEqual(listed(schema, state, thing, name), entries)
            for kind, name in slow.rights_in(schema):
                found = [thing for thing in slow.things_in(schema, state)
                         if thing[0] == kind and check(schema, state, thing, name, user)]
                self.assertEqual(things(schema, state, user, kind, name), found)
                for size in (1, 2, 50):
                    for after in [None, (kind, 0), (kind, 1), (kind, 99)]:
                        left = [thing for thing in found if after is None or thing > after]
                        later = left[size - 1] if len(left) > size else None
                        self.assertEqual(page(schema, state, user, kind, name, size, after), (left[:size], later))

    def test_compared(self):
        words = set()
        for chance, schema, state, _, over in cases(53, 150):
            rights = nodes_over(schema, over)
            users = named_users(schema, state) + [("user", 99), ("bot", 99)]
            for _ in range(20):
                one, other = chance.choice(rights), chance.choice(rights)
                first = {user for user in users if check(schema, state, *one, user)}
                second = {user for user in users if check(schema, state, *other, user)}
                word = ("same" if first == second else "less" if first < second else "more" if first > second else
                        "cross" if first & second else "apart")
                self.assertEqual(compared(schema, state, *one, *other), word)
                words.add(word)
        self.assertEqual(words, {"same", "less", "more", "apart", "cross"})


class TreesByChanceTest(unittest.TestCase):
    def test_whole_trees(self):
        chance = random.Random(54)
        for _ in range(1500):
            tree = some_tree(chance, 5)
            for user in USERS + [("none", 7)]:
                self.assertIs(is_in(tree, user), slow_trees.has_user(tree, user))
                self.assertEqual(places(tree, user), slow_trees.paths_to(tree, user))
            less = pruned(tree)
            self.assertEqual(less, slow_trees.cut(tree))
            if less is not None:
                self.assertEqual(pruned(less), less)
            for user in USERS:
                self.assertIs(less is not None and is_in(less, user), is_in(tree, user))

    def test_wrong_trees(self):
        chance = random.Random(55)
        # What is nested deep stands in test_expansions.
        odd = [value for value in odd_values() if value is None or not isinstance(value, (tuple, list)) or not value]
        odd += [("users", ("doc", 1), "see"), ("set", (("one", ("user", True)),)), ("both", ()), ("any", []), 1,
                ("set", (("one", ("user", 1)), ("all", "user"))), ("set", (("all", "user"), ("all", "user"))), "see",
                ("ring", ("doc", 1)), ("ring", ("doc", -1), "see"), ("open", ("doc", 1), "see"), ("but", ("set", ()))]
        wrong = 0
        for _ in range(3000):
            tree = some_tree(chance, 4)
            for _ in range(chance.randint(1, 2)):
                tree = replaced(tree, chance.choice(paths_of(tree)), chance.choice(odd))
                if not isinstance(tree, tuple):
                    tree = ("any", (some_tree(chance, 2), tree))
            path = slow_trees.first_wrong(tree)
            expected = ("fine",) if path is None else ("InvalidTree", path)
            for function, more in ((is_in, [USERS[0]]), (places, [USERS[0]]), (pruned, [])):
                self.assertEqual(told(function, tree, *more)[:len(expected)], expected)
            wrong += path is not None
        self.assertGreater(wrong, 2000)

    def test_paths_lead_to_sets(self):
        chance = random.Random(56)
        for _ in range(300):
            tree = some_tree(chance, 5)
            for path in places(tree, USERS[0]):
                below = tree
                for k in path:
                    below = slow_trees.parts_of(below)[k]
                self.assertEqual(below[0], "set")
        with self.assertRaises(InvalidTree):
            places(at_path(("users", ("doc", 1), "see"), ()), USERS[0])


if __name__ == "__main__":
    unittest.main()
