"""Stages 3 and 4 on schemas and states made by chance, compared with the definitions of the document."""

import random
import unittest

from relatedrights.errors import TooLarge
from relatedrights.papers import judge, paper_for, trimmed, ways, weight
from relatedrights.ranks import calls_within, check_within, depth_needed, never_told, rank
from relatedrights.states import check
from tests import slow
from tests.made import some_schema, some_state
from tests.samples import at_path, paths_of, replaced
from tests.slow_rounds import Judge, Rounds, calls, nodes_over, value

USERS = (("user", 0), ("user", 1), ("bot", 2), ("bot", 50))


def cases(seed, many, rows=60):
    """Schemas and states with a user, and all things that the state names and one that it does not."""
    chance = random.Random(seed)
    for _ in range(many):
        schema = some_schema(chance)
        state = some_state(chance, schema, chance.randint(0, rows), chance.randint(1, 3))
        others = [(kind, 77) for kind, entries in schema if entries]
        yield chance, schema, state, chance.choice(USERS), slow.things_in(schema, state) + others[:1]


class DepthsByChanceTest(unittest.TestCase):
    def test_values_at_all_depths(self):
        words = set()
        for chance, schema, state, user, things in cases(31, 120):
            memo = {}
            nodes = nodes_over(schema, things)
            last = max(3, len(nodes) + 1)
            deep = []
            for thing, name in nodes:
                values = [value(schema, state, thing, name, user, depth, memo) for depth in range(last + 1)]
                words.update(values)
                told = [depth for depth in range(last + 1) if values[depth] != "deep"]
                self.assertEqual(depth_needed(schema, state, thing, name, user), told[0] if told else None)
                for depth in sorted({0, 1, 2, 3, last} | set(told[:1]) | {d - 1 for d in told[:1]}):
                    self.assertEqual(check_within(schema, state, thing, name, user, depth), values[depth])
                self.assertEqual(check_within(schema, state, thing, name, user, 10 ** 30), values[last])
                has = check(schema, state, thing, name, user)
                self.assertIn(values[last], ("deep", "yes" if has else "no"))
                if told:
                    self.assertEqual(set(values[told[0]:]), {values[last]})
                elif thing[1] != 77:
                    deep.append((thing, name))
            self.assertEqual(never_told(schema, state, user), deep)
        self.assertEqual(words, {"yes", "no", "deep"})

    def test_calls(self):
        for chance, schema, state, _, things in cases(32, 80):
            memo = {}
            for thing, name in nodes_over(schema, things):
                for depth in (0, 1, 2, 3, 7, 100):
                    self.assertEqual(calls_within(schema, state, thing, name, depth),
                                     calls(schema, state, thing, name, depth, memo))

    def test_ranks(self):
        most = 0
        for chance, schema, state, user, things in cases(33, 150):
            ranks = Rounds(schema, state, things, user).ranks()
            buts = "but" in repr(schema)
            for thing, name in nodes_over(schema, things):
                found = rank(schema, state, thing, name, user)
                self.assertEqual(found, ranks.get((thing, name)))
                self.assertEqual(found is not None, check(schema, state, thing, name, user))
                most = max(most, found or 0)
                if found is not None:
                    needed = depth_needed(schema, state, thing, name, user)
                    self.assertTrue(needed is None and buts or needed is not None and needed >= found)
                    self.assertTrue(buts or needed == found)
        self.assertGreater(most, 3)


class PapersByChanceTest(unittest.TestCase):
    def test_papers_stand_and_show_what_is_so(self):
        words = {"has": 0, "lacks": 0}
        for chance, schema, state, user, things in cases(41, 150):
            for thing, name in nodes_over(schema, things):
                paper = paper_for(schema, state, thing, name, user)
                self.assertIs(type(paper), list)
                self.assertIsNone(judge(schema, state, user, paper))
                self.assertIsNone(Judge(schema, state, user).judge(paper))
                last = paper[-1]
                words[last[0]] += 1
                if check(schema, state, thing, name, user):
                    self.assertEqual(last[:3], ("has", thing, name))
                else:
                    self.assertEqual(last[0], "lacks")
                    self.assertIn((thing, name), [entry[:2] for entry in last[1]])
                self.assertEqual(paper_for(schema, state, thing, name, user), paper)
        self.assertGreater(min(words.values()), 200)

    def test_spoilt_papers(self):
        wrong = fine = 0
        for chance, schema, state, user, things in cases(42, 200):
            nodes = nodes_over(schema, things)
            papers = [paper_for(schema, state, thing, name, user) for thing, name in nodes]
            values = [at_path(tuple(paper), path) for paper in papers for path in paths_of(tuple(paper))]
            for paper in papers:
                for _ in range(6):
                    other = self.spoilt(chance, tuple(paper), values)
                    expected = Judge(schema, state, user).judge(other)
                    self.assertEqual(judge(schema, state, user, other), expected)
                    self.assertEqual(judge(schema, state, user, list(other)), expected)
                    wrong += expected is not None
                    fine += expected is None
                    if expected is None:
                        self.shows_what_is_so(schema, state, user, other)
        self.assertGreater(wrong, 500)
        self.assertGreater(fine, 500)

    def shows_what_is_so(self, schema, state, user, paper):
        for step in paper:
            for node in [step[1:3]] if step[0] == "has" else [entry[:2] for entry in step[1]]:
                self.assertIs(check(schema, state, *node, user), step[0] == "has")

    def spoilt(self, chance, paper, values):
        word = chance.choice(["drop", "swap", "twice", "value", "value", "value"])
        if word == "drop":
            k = chance.randrange(len(paper))
            return paper[:k] + paper[k + 1:]
        if word == "swap":
            return paper[::-1]
        if word == "twice":
            return paper + paper
        paths = [path for path in paths_of(paper) if path]
        return replaced(paper, chance.choice(paths), chance.choice(values))

    def test_trimmed(self):
        shorter = 0
        for chance, schema, state, user, things in cases(43, 60, 20):
            nodes = nodes_over(schema, things)
            paper = []
            for thing, name in chance.sample(nodes, min(5, len(nodes))):
                paper.extend(paper_for(schema, state, thing, name, user))
            if not 0 < len(paper) <= 100:
                continue
            kept = list(paper)
            for k in range(len(paper) - 2, -1, -1):
                left = kept[:k] + kept[k + 1:]
                if Judge(schema, state, user).judge(left) is None:
                    kept = left
            self.assertEqual(trimmed(schema, state, user, paper), kept)
            self.assertEqual(trimmed(schema, state, user, tuple(paper)), kept)
            shorter += len(kept) < len(paper)
        self.assertGreater(shorter, 20)


class NumbersByChanceTest(unittest.TestCase):
    def test_weights(self):
        most = 0
        for chance, schema, state, user, things in cases(44, 150):
            weights = Rounds(schema, state, things, user).weights()
            for thing, name in nodes_over(schema, things):
                found = weight(schema, state, thing, name, user)
                self.assertEqual(found, weights.get((thing, name)))
                self.assertEqual(found is not None, check(schema, state, thing, name, user))
                most = max(most, found or 0)
        self.assertGreater(most, 5)

    def test_ways(self):
        great = 0
        for chance, schema, state, user, things in cases(45, 100):
            slow_rounds = Rounds(schema, state, things, user)
            for rounds in (0, 1, 2, 3, 6):
                found = slow_rounds.ways(rounds)
                for thing, name in nodes_over(schema, things):
                    number = found.get((thing, name), 0)
                    if number >= 10 ** 60:
                        with self.assertRaises(TooLarge):
                            ways(schema, state, thing, name, user, rounds)
                    else:
                        self.assertEqual(ways(schema, state, thing, name, user, rounds), number)
                    held = rank(schema, state, thing, name, user)
                    self.assertEqual(number > 0, held is not None and held <= rounds)
                    great = max(great, number)
        self.assertGreater(great, 1000)


if __name__ == "__main__":
    unittest.main()
