"""General rules: the order of the errors, arguments by name, nothing changed, everything new."""

import copy
import unittest

from relatedrights.expansions import compared, expand, is_in, listed, page, places, pruned, things, unfold
from relatedrights.histories import (
    answers, came_and_went, closed_by, leaks, session, snapshot, spans, sure_from, watch,
)
from relatedrights.papers import judge, paper_for, trimmed, ways, weight
from relatedrights.ranks import calls_within, check_within, depth_needed, never_told, rank
from relatedrights.schemas import check_schema, depends_on, strata
from relatedrights.states import check, check_row, check_state, named_users, rights_of, who_has
from tests.samples import SCHEMA, STATE, odd_values, told

THING, USER = ("doc", 5), ("user", 3)
RING = (("user", ()), ("doc", (("see", ("but", ("same", "see"), ("same", "see"))),)))
TREE = unfold(SCHEMA, STATE, THING, "see")
PAPER = paper_for(SCHEMA, STATE, THING, "see", USER)
BANS = [(THING, "ban", ("one", ("user", k))) for k in range(4)]
HISTORY = [[("put", BANS[3]), ("take", STATE[5])], [], [("take", BANS[3]), ("put", BANS[1])]]
READS = [(0, THING, "see", USER, False), (1, THING, "see", USER, True), (0, ("doc", 6), "own", ("bot", 1), False)]


def of_schema(wrong=()):
    return ("schema", SCHEMA, wrong, ("InvalidSchema", ()))


def of_state(wrong=None, at=-1):
    return ("state", STATE, wrong, ("InvalidState", at))


def of_history(wrong=None, at=-1):
    return ("history", HISTORY, wrong, ("InvalidChange", at))


def of_token(name, fine, wrong):
    return (name, fine, wrong, ("InvalidNumber", "kept") if name == "kept" else ("InvalidToken", wrong))


def of_thing(wrong=USER, name="thing"):
    return (name, THING, wrong, ("InvalidObject", wrong))


def of_relation(wrong="in", name="relation"):
    return (name, "see", wrong, ("InvalidRelation", wrong))


def of_user(wrong=THING):
    return ("user", USER, wrong, ("InvalidUser", wrong))


def of_kind(wrong="user"):
    return ("kind", "doc", wrong, ("InvalidKind", wrong))


def of_number(name, fine, wrong):
    return (name, fine, wrong, ("InvalidNumber", name))


QUESTION = [of_schema(), of_state(), of_thing(), of_relation(), of_user()]
BEHIND = [of_schema(), of_state(), of_history()]

# Each function with its fine arguments, and for each argument a wrong one and the error that tells of it.
CALLS = [
    (check_schema, [of_schema()]),
    (strata, [("schema", SCHEMA, RING, ("CircularBut", "doc", "see"))]),
    (depends_on, [("schema", SCHEMA, RING, ("CircularBut", "doc", "see")), of_kind(), of_relation()]),
    (check_state, [of_schema(), of_state(STATE[:2] + [0], 2)]),
    (check_row, [("schema", SCHEMA, (5,), ("InvalidSchema", (0,))), ("row", STATE[0], None, ("Mismatch", "row"))]),
    (check, QUESTION),
    (who_has, [of_schema([]), of_state({}), of_thing(["doc", 5]), of_relation("up")]),
    (rights_of, [of_schema(), of_state([0], 0), of_user(("user", True))]),
    (named_users, [of_schema(), of_state("")]),
    (check_within, QUESTION + [of_number("depth", 3, -1)]),
    (depth_needed, QUESTION),
    (never_told, [of_schema(), of_state(), of_user()]),
    (calls_within, [of_schema(), of_state(), of_thing(), of_relation(), of_number("depth", 3, 101)]),
    (rank, QUESTION),
    (judge, [of_schema(), of_state(), of_user()] + [("paper", PAPER, None, ("fine", -1))]),
    (paper_for, QUESTION),
    (trimmed, [of_schema(), of_state(), of_user(), ("paper", PAPER, PAPER * 101, ("TooLarge", 100))]),
    (weight, QUESTION),
    (ways, QUESTION + [of_number("rounds", 3, True)]),
    (expand, QUESTION[:4]),
    (unfold, QUESTION[:4]),
    (is_in, [("tree", TREE, ("any", (0,)), ("InvalidTree", (0,))), of_user(("User", 1))]),
    (places, [("tree", TREE, None, ("InvalidTree", ())), of_user(["user", 1])]),
    (pruned, [("tree", TREE, ("but", TREE, TREE, TREE), ("InvalidTree", ()))]),
    (listed, QUESTION[:4]),
    (things, [of_schema(), of_state(), of_user(), of_kind(), of_relation()]),
    (page, [of_schema(), of_state(), of_user(), of_kind(), of_relation(), of_number("size", 2, 0),
            of_number("after", None, ("folder", 1))]),
    (compared, QUESTION[:4] + [of_thing(name="other"), of_relation(name="other_relation")]),
    (snapshot, BEHIND + [of_token("token", 3, 4)]),
    (spans, [of_schema(), of_state(), of_history(HISTORY + [0], 3)] + QUESTION[2:]),
    (answers, BEHIND + [of_token("kept", 1, 4), of_token("token", 0, -1)] + QUESTION[2:]),
    (sure_from, BEHIND + [of_token("kept", 0, True)] + QUESTION[2:]),
    (leaks, BEHIND + [of_token("kept", 1, 4), of_token("token", 0, False), of_token("first", 1, None),
                      of_token("last", 2, 4)] + QUESTION[2:]),
    (closed_by, BEHIND + [of_token("kept", 1, 4), of_token("first", 1, 5), of_token("last", 2, -1)] + QUESTION[2:]),
    (watch, BEHIND + [of_token("token", 0, 4), ("kinds", ["doc"], ["doc", "user"], ("InvalidKind", "user"))]),
    (came_and_went, BEHIND + [of_token("one", 0, 4), of_token("other", 1, "1"), of_user()]),
    (session, BEHIND + [of_token("kept", 1, 4), ("reads", READS, READS + [0], ("Mismatch", "reads"))]),
]

# What may be given as a list or as a tuple, and what any object is answered for without an error.
LISTS = ("state", "history", "kinds", "reads", "paper")


class OrderOfErrorsTest(unittest.TestCase):
    def test_the_first_wrong_argument_decides(self):
        for function, rows in CALLS:
            for mask in range(1 << len(rows)):
                values = [row[2] if mask >> k & 1 else row[1] for k, row in enumerate(rows)]
                wrong = [row[3] for k, row in enumerate(rows) if mask >> k & 1]
                answers = [told(function, *values), told(function, **{row[0]: v for row, v in zip(rows, values)}),
                           told(function, **{row[0]: v for row, v in reversed(list(zip(rows, values)))})]
                for answer in answers:
                    if wrong:
                        self.assertEqual(answer, wrong[0], function)
                    else:
                        self.assertEqual(answer[0], "fine")

    def test_other_objects_in_the_place_of_each_argument(self):
        for function, rows in CALLS:
            values = [row[1] for row in rows]
            for k, row in enumerate(rows):
                for odd in odd_values():
                    if row[0] in LISTS and isinstance(odd, (list, tuple)) and len(odd) == 0:
                        continue
                    if row[0] == "after" and odd is None:
                        continue
                    answer = told(function, *values[:k], odd, *values[k + 1:])
                    names = {"CircularBut": "InvalidSchema", "TooLarge": "Mismatch"}
                    self.assertEqual(answer[0], names.get(row[3][0], row[3][0]), (function, row[0]))
                    if row[3][0] in ("InvalidKind", "InvalidRelation", "InvalidObject", "InvalidUser", "InvalidToken"):
                        if row[0] != "kinds":
                            self.assertIs(answer[1], odd)

    def test_wrong_things_users_and_rights(self):
        for thing in (("user", 1), ("none", 1), ("doc", -1), ("doc", True), ("doc", "1"), ("doc",), ("doc", 1, 1),
                      ["doc", 1], (["doc"], 1), ("doc", [1]), (1, "doc"), "doc"):
            self.assertEqual(told(check, SCHEMA, STATE, thing, "see", USER), ("InvalidObject", thing))
            self.assertEqual(told(who_has, SCHEMA, STATE, thing, "see"), ("InvalidObject", thing))
        for user in (("doc", 5), ("none", 1), ("user", -1), ("user", False), ("user", "1"), ("user",), ("user", 1, 1),
                     ["user", 1], (["user"], 1), ("user", [1]), (1, "user"), "user"):
            self.assertEqual(told(check, SCHEMA, STATE, THING, "see", user), ("InvalidUser", user))
            self.assertEqual(told(rights_of, SCHEMA, STATE, user), ("InvalidUser", user))
        for relation in ("in", "up", "member", "none", "", ["see"], ("see",), None, b"see"):
            self.assertEqual(told(check, SCHEMA, STATE, THING, relation, USER), ("InvalidRelation", relation))
            self.assertEqual(told(who_has, SCHEMA, STATE, THING, relation), ("InvalidRelation", relation))


class NothingIsSharedTest(unittest.TestCase):
    def test_arguments_are_not_changed(self):
        for function, rows in CALLS:
            values = [row[1] for row in rows]
            before = copy.deepcopy(values)
            function(*values)
            self.assertEqual(values, before)

    def test_lists_and_tuples_are_the_same_state(self):
        for function, rows in CALLS:
            values = [row[1] for row in rows]
            others = [tuple(value) if row[0] in LISTS else value for row, value in zip(rows, values)]
            self.assertEqual(function(*values), function(*others))
            if "history" in [row[0] for row in rows]:
                others[2] = [tuple(write) for write in others[2]]
                self.assertEqual(function(*values), function(*others))

    def test_returned_lists_are_new(self):
        for function, rows in CALLS:
            values = [row[1] for row in rows]
            kept, given = function(*values), function(*values)
            for inner in [given] + list(given if isinstance(given, (list, tuple)) else []):
                if isinstance(inner, list):
                    inner.clear()
            self.assertEqual(function(*values), kept)

    def test_kinds_of_results(self):
        self.assertIs(check(SCHEMA, STATE, THING, "see", USER), True)
        self.assertIs(check(SCHEMA, STATE, THING, "see", ("user", 2)), False)
        answer = who_has(SCHEMA, STATE, THING, "see")
        self.assertEqual((type(answer), [type(part) for part in answer]), (tuple, [list, list]))
        for function, rows in CALLS:
            values = [row[1] for row in rows]
            if function in (depends_on, strata, rights_of, named_users, never_told, paper_for, trimmed, places, listed,
                            things, snapshot, spans, answers, leaks, watch, session):
                self.assertIs(type(function(*values)), list, function)
            if function in (check_schema, check_state, check_row, judge):
                self.assertIsNone(function(*values))
            if function in (expand, unfold, pruned, sure_from, page, came_and_went):
                self.assertIs(type(function(*values)), tuple, function)
            if function in (calls_within, rank, depth_needed, weight, ways):
                self.assertIs(type(function(*values)), int, function)


if __name__ == "__main__":
    unittest.main()
