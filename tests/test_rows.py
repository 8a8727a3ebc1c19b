"""[2.1] check_state and check_row: what a row and a state are."""

import unittest

from relatedrights.states import check_row, check_state
from tests.samples import GREAT, SCHEMA, STATE, at_path, deep_list, deep_tuple, odd_values, paths_of, replaced, told

FINE = ("fine", None)
WRONG = ("Mismatch", "row")
DOC, FOLDER, USER, BOT = ("doc", 1), ("folder", 1), ("user", 1), ("bot", 1)


class RowsTest(unittest.TestCase):
    def expect(self, answer, *rows):
        for row in rows:
            self.assertEqual(told(check_row, SCHEMA, row), answer, row)
            state = FINE if answer == FINE else ("InvalidState", 1)
            self.assertEqual(told(check_state, SCHEMA, [STATE[0], row, STATE[1], row]), state, row)

    def test_rows_of_all_forms(self):
        self.expect(FINE, *STATE)
        self.expect(
            FINE, (DOC, "in", ("one", FOLDER)), (DOC, "in", ("one", DOC)), (DOC, "ban", ("one", USER)),
            (DOC, "ban", ("all", "user")), (DOC, "own", ("one", BOT)), (DOC, "own", ("all", "bot")),
            (DOC, "edit", ("who", ("group", 0), "member")), (("group", 4), "member", ("who", ("group", 4), "member")),
            (("folder", 2), "see", ("who", ("group", 9), "member")), (FOLDER, "up", ("one", FOLDER)))

    def test_by_keyword(self):
        self.assertIsNone(check_row(row=STATE[0], schema=SCHEMA))
        self.assertIsNone(check_state(state=STATE, schema=SCHEMA))

    def test_numbers(self):
        for number in (0, 1, GREAT):
            self.expect(FINE, (("doc", number), "in", ("one", ("folder", number))),
                        (("doc", number), "edit", ("who", ("group", number), "member")),
                        (DOC, "ban", ("one", ("user", number))))
        for number in (-1, -GREAT, True, False, None, "1", b"1", [1], (1,)):
            self.expect(WRONG, (("doc", number), "in", ("one", FOLDER)), (DOC, "in", ("one", ("folder", number))),
                        (DOC, "edit", ("who", ("group", number), "member")), (DOC, "ban", ("one", ("user", number))))

    def test_wrong_shapes(self):
        self.expect(WRONG, (), (DOC,), (DOC, "in"), (DOC, "in", ("one", FOLDER), 1), None, "row", [], {}, DOC)
        self.expect(WRONG, (DOC, "in", ()), (DOC, "in", ("one",)), (DOC, "in", ("one", FOLDER, "see")),
                    (DOC, "in", (FOLDER, "one")), (DOC, "in", FOLDER), (DOC, "ban", ("one", USER, "see")),
                    (DOC, "edit", ("who", ("group", 1))), (DOC, "edit", ("who", ("group", 1), "member", 1)))

    def test_lists_in_a_row(self):
        for row in STATE:
            for path in paths_of(row):
                if isinstance(at_path(row, path), tuple):
                    self.expect(WRONG, replaced(row, path, list(at_path(row, path))))

    def test_the_thing(self):
        self.expect(WRONG, (USER, "own", ("one", USER)), (("none", 1), "own", ("one", BOT)),
                    ("doc", "own", ("one", BOT)), (("doc",), "own", ("one", BOT)), (("doc", 1, 1), "own", ("one", BOT)),
                    ((1, "doc"), "own", ("one", BOT)))

    def test_the_relation(self):
        self.expect(WRONG, (DOC, "none", ("one", BOT)), (DOC, "up", ("one", FOLDER)), (DOC, "member", ("one", USER)),
                    (DOC, "", ("one", BOT)), (DOC, ["own"], ("one", BOT)), (DOC, b"own", ("one", BOT)))

    def test_a_right_without_a_direct_part_has_no_rows(self):
        self.expect(WRONG, (DOC, "see", ("one", USER)), (DOC, "see", ("all", "user")),
                    (DOC, "see", ("who", ("group", 1), "member")), (DOC, "see", ("one", FOLDER)))

    def test_the_subject_of_a_link(self):
        self.expect(WRONG, (DOC, "in", ("one", ("group", 1))), (DOC, "in", ("one", USER)),
                    (DOC, "in", ("all", "folder")), (DOC, "in", ("all", "user")), (DOC, "in", ("all", FOLDER)),
                    (DOC, "in", ("who", FOLDER, "see")), (DOC, "in", ("who", FOLDER)), (FOLDER, "up", ("one", DOC)))

    def test_the_subject_of_a_right(self):
        self.expect(WRONG, (DOC, "own", ("all", "user")), (FOLDER, "own", ("all", "user")),
                    (FOLDER, "own", ("one", BOT)), (FOLDER, "see", ("one", USER)), (DOC, "ban", ("all", "doc")),
                    (DOC, "ban", ("one", DOC)), (DOC, "ban", ("all", USER)), (DOC, "ban", ("one", "user")),
                    (DOC, "ban", ("who", ("group", 1), "member")),
                    (DOC, "edit", ("who", DOC, "see")), (DOC, "edit", ("who", ("group", 1), "see")),
                    (DOC, "edit", ("all", "user")), (DOC, "edit", ("who", "group", "member")),
                    (DOC, "edit", ("who", USER, "member")), (DOC, "edit", ("some", USER)), (DOC, "edit", ("", USER)))

    def test_other_objects_in_each_place(self):
        for row in STATE[1:8]:
            for path in paths_of(row):
                for value in odd_values():
                    self.expect(WRONG, replaced(row, path, value))

    def test_deep_ones(self):
        for value in (deep_tuple(50000), deep_list(50000)):
            self.expect(WRONG, value, (value,) * 3, (DOC, "in", value), (DOC, "in", ("one", value)),
                        (DOC, value, value))

    def test_the_schema_is_first(self):
        self.assertEqual(told(check_row, (), None), ("InvalidSchema", ()))
        self.assertEqual(told(check_state, (), None), ("InvalidSchema", ()))
        ring = (("doc", (("see", ("but", ("same", "see"), ("same", "see"))),)),)
        self.assertEqual(told(check_row, ring, None), ("CircularBut", "doc", "see"))


class StatesTest(unittest.TestCase):
    def test_lists_and_tuples(self):
        for state in ([], (), STATE, tuple(STATE), STATE * 3):
            self.assertEqual(told(check_state, SCHEMA, state), FINE)

    def test_no_list_or_tuple(self):
        for value in odd_values():
            if not isinstance(value, (list, tuple)):
                self.assertEqual(told(check_state, SCHEMA, value), ("InvalidState", -1))
            elif len(value) > 0:
                self.assertEqual(told(check_state, SCHEMA, value), ("InvalidState", 0))
        self.assertEqual(told(check_state, SCHEMA, {row: True for row in STATE}), ("InvalidState", -1))

    def test_two_thousand_rows_and_one_more(self):
        rows = [(("doc", k), "ban", ("one", ("user", k))) for k in range(2001)]
        for many in (rows[:2000], tuple(rows[:2000]), STATE[:1] * 2000):
            self.assertEqual(told(check_state, SCHEMA, many), FINE)
        for many in (rows, tuple(rows), STATE[:1] * 2001, [None] * 2001, STATE * 1000):
            self.assertEqual(told(check_state, SCHEMA, many), ("InvalidState", -1))
        self.assertEqual(told(check_state, SCHEMA, rows[:1999] + [None]), ("InvalidState", 1999))

    def test_the_first_wrong_row(self):
        self.assertEqual(told(check_state, SCHEMA, [None] + STATE), ("InvalidState", 0))
        self.assertEqual(told(check_state, SCHEMA, STATE + [None, [], 5]), ("InvalidState", len(STATE)))
        self.assertEqual(told(check_state, SCHEMA, tuple(STATE[:3]) + (5,) + tuple(STATE)), ("InvalidState", 3))


if __name__ == "__main__":
    unittest.main()
