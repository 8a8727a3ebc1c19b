"""General rules: the order of the errors, arguments by name, nothing changed, everything new."""

import copy
import unittest

from relatedrights.schemas import check_schema, depends_on, strata
from relatedrights.states import check, check_row, check_state, named_users, rights_of, who_has
from tests.samples import SCHEMA, STATE, odd_values, told

THING, USER = ("doc", 5), ("user", 3)
RING = (("user", ()), ("doc", (("see", ("but", ("same", "see"), ("same", "see"))),)))

# Each function with its fine arguments, and for each argument a wrong one and the error that tells of it.
CALLS = [
    (check_schema, [("schema", SCHEMA, None, ("InvalidSchema", ()))]),
    (strata, [("schema", SCHEMA, RING, ("CircularBut", "doc", "see"))]),
    (depends_on, [
        ("schema", SCHEMA, RING, ("CircularBut", "doc", "see")), ("kind", "doc", "user", ("InvalidKind", "user")),
        ("relation", "see", "in", ("InvalidRelation", "in"))]),
    (check_state, [
        ("schema", SCHEMA, (), ("InvalidSchema", ())), ("state", STATE, STATE[:2] + [0], ("InvalidState", 2))]),
    (check_row, [("schema", SCHEMA, (5,), ("InvalidSchema", (0,))), ("row", STATE[0], None, ("Mismatch", "row"))]),
    (check, [
        ("schema", SCHEMA, [], ("InvalidSchema", ())), ("state", STATE, None, ("InvalidState", -1)),
        ("thing", THING, USER, ("InvalidObject", USER)), ("relation", "see", "in", ("InvalidRelation", "in")),
        ("user", USER, THING, ("InvalidUser", THING))]),
    (who_has, [
        ("schema", SCHEMA, [], ("InvalidSchema", ())), ("state", STATE, {}, ("InvalidState", -1)),
        ("thing", THING, ["doc", 5], ("InvalidObject", ["doc", 5])),
        ("relation", "see", "up", ("InvalidRelation", "up"))]),
    (rights_of, [
        ("schema", SCHEMA, [], ("InvalidSchema", ())), ("state", STATE, [0], ("InvalidState", 0)),
        ("user", USER, ("user", True), ("InvalidUser", ("user", True)))]),
    (named_users, [("schema", SCHEMA, [], ("InvalidSchema", ())), ("state", STATE, "", ("InvalidState", -1))]),
]


class OrderOfErrorsTest(unittest.TestCase):
    def test_the_first_wrong_argument_decides(self):
        for function, rows in CALLS:
            for mask in range(1 << len(rows)):
                values = [row[2] if mask >> k & 1 else row[1] for k, row in enumerate(rows)]
                wrong = [row[3] for k, row in enumerate(rows) if mask >> k & 1]
                answers = [told(function, *values), told(function, **{row[0]: v for row, v in zip(rows, values)}),
                           told(function, **{row[0]: v for row, v in reversed(list(zip(rows, values)))})]
                for answer in answers:
                    if wrong:
                        self.assertEqual(answer, wrong[0])
                    else:
                        self.assertEqual(answer[0], "fine")

    def test_other_objects_in_the_place_of_each_argument(self):
        for function, rows in CALLS:
            values = [row[1] for row in rows]
            for k, row in enumerate(rows):
                for odd in odd_values():
                    if row[0] != "state" or not isinstance(odd, (list, tuple)) or len(odd) > 0:
                        answer = told(function, *values[:k], odd, *values[k + 1:])
                        self.assertEqual(answer[0], {"CircularBut": "InvalidSchema"}.get(row[3][0], row[3][0]))
                        if row[0] in ("kind", "relation", "thing", "user"):
                            self.assertIs(answer[1], odd)

    def test_wrong_things_users_and_rights(self):
        for thing in (("user", 1), ("none", 1), ("doc", -1), ("doc", True), ("doc", "1"), ("doc",), ("doc", 1, 1),
                      ["doc", 1], (["doc"], 1), ("doc", [1]), (1, "doc"), "doc"):
            self.assertEqual(told(check, SCHEMA, STATE, thing, "see", USER), ("InvalidObject", thing))
            self.assertEqual(told(who_has, SCHEMA, STATE, thing, "see"), ("InvalidObject", thing))
        for user in (("doc", 5), ("none", 1), ("user", -1), ("user", False), ("user", "1"), ("user",), ("user", 1, 1),
                     ["user", 1], (["user"], 1), ("user", [1]), (1, "user"), "user"):
            self.assertEqual(told(check, SCHEMA, STATE, THING, "see", user), ("InvalidUser", user))
            self.assertEqual(told(rights_of, SCHEMA, STATE, user), ("InvalidUser", user))
        for relation in ("in", "up", "member", "none", "", ["see"], ("see",), None, b"see"):
            self.assertEqual(told(check, SCHEMA, STATE, THING, relation, USER), ("InvalidRelation", relation))
            self.assertEqual(told(who_has, SCHEMA, STATE, THING, relation), ("InvalidRelation", relation))


class NothingIsSharedTest(unittest.TestCase):
    def test_arguments_are_not_changed(self):
        for function, rows in CALLS:
            values = [row[1] for row in rows]
            before = copy.deepcopy(values)
            function(*values)
            self.assertEqual(values, before)

    def test_lists_and_tuples_are_the_same_state(self):
        for function, rows in CALLS:
            values = [row[1] for row in rows]
            others = [tuple(value) if row[0] == "state" else value for row, value in zip(rows, values)]
            self.assertEqual(function(*values), function(*others))

    def test_returned_lists_are_new(self):
        for function, rows in CALLS:
            values = [row[1] for row in rows]
            kept, given = function(*values), function(*values)
            for inner in [given] + list(given if isinstance(given, (list, tuple)) else []):
                if isinstance(inner, list):
                    inner.clear()
            self.assertEqual(function(*values), kept)

    def test_kinds_of_results(self):
        self.assertIs(check(SCHEMA, STATE, THING, "see", USER), True)
        self.assertIs(check(SCHEMA, STATE, THING, "see", ("user", 2)), False)
        answer = who_has(SCHEMA, STATE, THING, "see")
        self.assertEqual((type(answer), [type(part) for part in answer]), (tuple, [list, list]))
        for function, rows in CALLS:
            if function in (depends_on, strata, rights_of, named_users):
                self.assertIs(type(function(*[row[1] for row in rows])), list)
            if function in (check_schema, check_state, check_row):
                self.assertIsNone(function(*[row[1] for row in rows]))


if __name__ == "__main__":
    unittest.main()
