"""General rules: the order of the errors, arguments by name, nothing changed, everything new."""

import copy
import inspect
import unittest

from relatedrights.alike import alike, parting, rights_changed, rows_lost, spare_parts, without_part
from relatedrights.changes import (
    effects, judge_change, least_change, minimal_changes, quiet_change, switched, why_not,
)
from relatedrights.expansions import compared, expand, is_in, listed, page, places, pruned, things, unfold
from relatedrights.histories import (
    answers, came_and_went, closed_by, leaks, session, snapshot, spans, sure_from, watch,
)
from relatedrights.live import Live
from relatedrights.merges import (
    clashes, clean_order, clean_orders, first_refusal, grid, last_state, outcomes, rights_behind,
)
from relatedrights.needless import (
    agree, count_sets, difference, greatest_sets, is_thin, needed_for, spare_rows, thinned,
)
from relatedrights.papers import judge, paper_for, trimmed, ways, weight
from relatedrights.profiles import (
    always, can, is_sound, never, profile_of, profiles, soundest, state_for,
)
from relatedrights.ranks import calls_within, check_within, depth_needed, never_told, rank
from relatedrights.schemas import check_schema, depends_on, strata
from relatedrights.states import check, check_row, check_state, named_users, rights_of, who_has
from relatedrights.texts import journal_text, read_journal, read_rows, read_schema, rows_text, schema_text
from relatedrights.writers import (
    behind, can_come, can_grow, fewest, gains, growing, keepers, may, may_write, refused_at, rounds_to, shows_way,
    way_to,
)
from tests.samples import SCHEMA, STATE, odd_values, told

THING, USER = ("doc", 5), ("user", 3)
RING = (("user", ()), ("doc", (("see", ("but", ("same", "see"), ("same", "see"))),)))
TREE = unfold(SCHEMA, STATE, THING, "see")
PAPER = paper_for(SCHEMA, STATE, THING, "see", USER)
BANS = [(THING, "ban", ("one", ("user", k))) for k in range(4)]
HISTORY = [[("put", BANS[3]), ("take", STATE[5])], [], [("take", BANS[3]), ("put", BANS[1])]]
READS = [(0, THING, "see", USER, False), (1, THING, "see", USER, True), (0, ("doc", 6), "own", ("bot", 1), False)]


def of_schema(wrong=()):
    return ("schema", SCHEMA, wrong, ("InvalidSchema", ()))


def of_state(wrong=None, at=-1):
    return ("state", STATE, wrong, ("InvalidState", at))


def of_history(wrong=None, at=-1):
    return ("history", HISTORY, wrong, ("InvalidChange", at))


def of_token(name, fine, wrong):
    return (name, fine, wrong, ("InvalidNumber", "kept") if name == "kept" else ("InvalidToken", wrong))


def of_thing(wrong=USER, name="thing"):
    return (name, THING, wrong, ("InvalidObject", wrong))


def of_relation(wrong="in", name="relation"):
    return (name, "see", wrong, ("InvalidRelation", wrong))


def of_user(wrong=THING):
    return ("user", USER, wrong, ("InvalidUser", wrong))


def of_kind(wrong="user"):
    return ("kind", "doc", wrong, ("InvalidKind", wrong))


def of_number(name, fine, wrong):
    return (name, fine, wrong, ("InvalidNumber", name))


QUESTION = [of_schema(), of_state(), of_thing(), of_relation(), of_user()]
BEHIND = [of_schema(), of_state(), of_history()]

# For stages 7 and 8: concerns, switches, wishes.
CONCERNS = [("doc", "see"), ("group", "member")]
SWITCHES = [STATE[0], BANS[3], (THING, "own", ("one", USER))]
WISHES = [(THING, "see", USER, True), (THING, "see", ("user", 2), False)]
OTHER_STATE = STATE[:7] + BANS[:1]
CONCERNED = ("concerns", CONCERNS, CONCERNS * 2, ("Mismatch", "concerns"))
SWITCHING = ("switches", SWITCHES, BANS * 2, ("Mismatch", "switches"))
WISHING = ("wishes", WISHES, [], ("Mismatch", "wishes"))
CHANGING = ("change", (0, 2), (2, 0), ("Mismatch", "change"))

# For stages 9 and 10: a schema with few atoms, one with the same rows, and one with other rows.
FEW = (("user", ()), ("doc", (("up", ("links", ("doc",))), ("own", ("direct", (("one", "user"), ("who", "doc", "own")))),
                              ("see", ("either", (("same", "own"), ("through", "up", "see"), ("same", "own")))))))
SAME = FEW[:1] + (("doc", FEW[1][1][:2] + (("see", ("same", "own")),)),)
FEW_ROWS = [(THING, "up", ("one", ("doc", 6))), (("doc", 6), "own", ("one", USER))]
LEFT = [("doc", ()), ("doc", (("direct", "own"),))]


def of_few(wrong=()):
    return ("schema", FEW, wrong, ("InvalidSchema", ()))


def of_bare(wrong="doc"):
    return ("bare", "user", wrong, ("InvalidKind", wrong))


def of_rights(name, fine, wrong):
    return (name, fine, wrong, ("Mismatch", name))


# For stages 11 to 13: rules, companies, steps, offers.
RULES = [("doc", "own", "own", "own"), ("doc", "up", "see", None)]
STEPS = [(USER, ("put", (("doc", 6), "own", ("one", ("user", 4))))), (USER, ("take", FEW_ROWS[1]))]
OFFERS = [(USER, STEPS[0][1], FEW_ROWS, ()), (("user", 4), ("take", FEW_ROWS[1]), [], BANS[:0])]
OTHER_OFFERS = [(USER, ("put", (("doc", 6), "own", ("one", ("user", 9)))), (), ())]
STORE = Live(FEW, RULES)
STORE.do(None, ("put", FEW_ROWS[1]))
JOURNAL = journal_text(STORE)
OF_STATE = ("state", FEW_ROWS, None, ("InvalidState", -1))
OF_RULES = ("rules", RULES, RULES * 2, ("InvalidRules", 2))
OF_COMPANY = ("company", [USER], [USER] * 2, ("InvalidUser", [USER] * 2))
OF_STEPS = ("steps", STEPS, STEPS + [0], ("InvalidChange", 2))
WRITING = [of_few(), OF_STATE, OF_RULES]
COMING = WRITING + [OF_COMPANY, of_thing(), of_relation("up"), of_user()]
OFFERING = WRITING + [("one", OFFERS, OFFERS + [0], ("InvalidChange", 2)), ("other", OTHER_OFFERS, 5, ("InvalidChange", -1))]

# Each function with its fine arguments, and for each argument a wrong one and the error that tells of it.
CALLS = [
    (check_schema, [of_schema()]),
    (strata, [("schema", SCHEMA, RING, ("CircularBut", "doc", "see"))]),
    (depends_on, [("schema", SCHEMA, RING, ("CircularBut", "doc", "see")), of_kind(), of_relation()]),
    (check_state, [of_schema(), of_state(STATE[:2] + [0], 2)]),
    (check_row, [("schema", SCHEMA, (5,), ("InvalidSchema", (0,))), ("row", STATE[0], None, ("Mismatch", "row"))]),
    (check, QUESTION),
    (who_has, [of_schema([]), of_state({}), of_thing(["doc", 5]), of_relation("up")]),
    (rights_of, [of_schema(), of_state([0], 0), of_user(("user", True))]),
    (named_users, [of_schema(), of_state("")]),
    (check_within, QUESTION + [of_number("depth", 3, -1)]),
    (depth_needed, QUESTION),
    (never_told, [of_schema(), of_state(), of_user()]),
    (calls_within, [of_schema(), of_state(), of_thing(), of_relation(), of_number("depth", 3, 101)]),
    (rank, QUESTION),
    (judge, [of_schema(), of_state(), of_user()] + [("paper", PAPER, None, ("fine", -1))]),
    (paper_for, QUESTION),
    (trimmed, [of_schema(), of_state(), of_user(), ("paper", PAPER, PAPER * 101, ("TooLarge", 100))]),
    (weight, QUESTION),
    (ways, QUESTION + [of_number("rounds", 3, True)]),
    (expand, QUESTION[:4]),
    (unfold, QUESTION[:4]),
    (is_in, [("tree", TREE, ("any", (0,)), ("InvalidTree", (0,))), of_user(("User", 1))]),
    (places, [("tree", TREE, None, ("InvalidTree", ())), of_user(["user", 1])]),
    (pruned, [("tree", TREE, ("but", TREE, TREE, TREE), ("InvalidTree", ()))]),
    (listed, QUESTION[:4]),
    (things, [of_schema(), of_state(), of_user(), of_kind(), of_relation()]),
    (page, [of_schema(), of_state(), of_user(), of_kind(), of_relation(), of_number("size", 2, 0),
            of_number("after", None, ("folder", 1))]),
    (compared, QUESTION[:4] + [of_thing(name="other"), of_relation(name="other_relation")]),
    (snapshot, BEHIND + [of_token("token", 3, 4)]),
    (spans, [of_schema(), of_state(), of_history(HISTORY + [0], 3)] + QUESTION[2:]),
    (answers, BEHIND + [of_token("kept", 1, 4), of_token("token", 0, -1)] + QUESTION[2:]),
    (sure_from, BEHIND + [of_token("kept", 0, True)] + QUESTION[2:]),
    (leaks, BEHIND + [of_token("kept", 1, 4), of_token("token", 0, False), of_token("first", 1, None),
                      of_token("last", 2, 4)] + QUESTION[2:]),
    (closed_by, BEHIND + [of_token("kept", 1, 4), of_token("first", 1, 5), of_token("last", 2, -1)] + QUESTION[2:]),
    (watch, BEHIND + [of_token("token", 0, 4), ("kinds", ["doc"], ["doc", "user"], ("InvalidKind", "user"))]),
    (came_and_went, BEHIND + [of_token("one", 0, 4), of_token("other", 1, "1"), of_user()]),
    (session, BEHIND + [of_token("kept", 1, 4), ("reads", READS, READS + [0], ("Mismatch", "reads"))]),
    (agree, [of_schema(), of_state(), ("other", OTHER_STATE, OTHER_STATE + [0], ("InvalidState", 8)), CONCERNED]),
    (difference, [of_schema(), of_state(), ("other", OTHER_STATE, 5, ("InvalidState", -1)), CONCERNED]),
    (spare_rows, [of_schema(), of_state(), CONCERNED]),
    (needed_for, [of_schema(), of_state(), CONCERNED, ("row", STATE[3], BANS[0], ("Mismatch", "row"))]),
    (thinned, [of_schema(), of_state(), CONCERNED]),
    (is_thin, [of_schema(), of_state(), CONCERNED]),
    (greatest_sets, [of_schema(), of_state(), CONCERNED, of_rights("rows", STATE[:4], BANS)]),
    (count_sets, [of_schema(), of_state(), CONCERNED, of_rights("rows", STATE[4:8], STATE[4:8] * 2)]),
    (switched, [of_schema(), of_state(), SWITCHING, CHANGING]),
    (least_change, [of_schema(), of_state(), SWITCHING, WISHING]),
    (minimal_changes, [of_schema(), of_state(), SWITCHING, WISHING]),
    (effects, [of_schema(), of_state(), SWITCHING, CHANGING, CONCERNED]),
    (quiet_change, [of_schema(), of_state(), SWITCHING, WISHING, CONCERNED]),
    (why_not, [of_schema(), of_state(), SWITCHING, WISHING]),
    (judge_change, [of_schema(), of_state(), SWITCHING, WISHING, ("told", (0,), (True,), ("fine", "form"))]),
    (profiles, [of_few(), of_bare(), of_kind()]),
    (state_for, [of_few(), of_bare(), of_kind(), of_rights("profile", ["see", "own"], ["up"])]),
    (can, [of_few(), of_bare(), of_kind(), of_rights("having", ["see"], "see"), of_rights("lacking", ["own"], ["own"] * 2)]),
    (always, [of_few(), of_bare(), of_kind(), of_relation(name="given", wrong="up"), of_relation(name="wanted", wrong="up")]),
    (never, [of_few(), of_bare()]),
    (soundest, [of_few(), of_bare()]),
    (is_sound, [of_few(), of_bare(), ("value", LEFT, LEFT * 2, ("fine", False))]),
    (profile_of, [of_few(), of_bare(), of_rights("configuration", LEFT[1], LEFT)]),
    (alike, [of_few(), ("other", SAME, (), ("InvalidSchema", ()))]),
    (parting, [of_few(), ("other", SAME, (5,), ("InvalidSchema", (0,)))]),
    (without_part, [of_few(), of_kind(), of_relation("up"), of_rights("path", (0,), ())]),
    (spare_parts, [of_few()]),
    (rows_lost, [of_few(), ("other", SCHEMA, (), ("InvalidSchema", ())), OF_STATE]),
    (rights_changed, [of_few(), ("other", SCHEMA, (5,), ("InvalidSchema", (0,))), OF_STATE]),
    (may, WRITING + [of_user(), ("change", STEPS[0][1], STEPS[0], ("InvalidChange", 0))]),
    (may_write, WRITING + [of_user(), of_thing()]),
    (refused_at, WRITING + [OF_STEPS]),
    (behind, WRITING + [OF_STEPS]),
    (can_come, COMING),
    (rounds_to, COMING),
    (way_to, COMING),
    (shows_way, COMING + [("steps", STEPS, None, ("fine", False))]),
    (gains, WRITING + [OF_COMPANY, of_user()]),
    (fewest, WRITING + [OF_COMPANY, ("rows", FEW_ROWS, FEW_ROWS + [0], ("InvalidChange", 2))] + COMING[4:]),
    (can_grow, [of_few(), OF_RULES, of_kind(), of_bare(), of_rights("profile", ["see"], ["up"]), of_relation("up")]),
    (keepers, [of_few(), OF_RULES, of_kind(), of_bare(), of_relation("up")]),
    (growing, [of_few(), OF_RULES, of_kind(), of_bare(), of_rights("profile", ["see"], ["up"]), of_relation("up")]),
    (clean_orders, OFFERING),
    (grid, OFFERING),
    (clean_order, OFFERING),
    (first_refusal, OFFERING),
    (last_state, OFFERING),
    (clashes, OFFERING),
    (outcomes, OFFERING),
    (rights_behind, OFFERING + COMING[4:]),
    (Live, [of_few(), OF_RULES]),
    (schema_text, [of_few()]),
    (read_schema, [("text", schema_text(FEW), "user", ("InvalidText", 0))]),
    (rows_text, [of_few(), OF_STATE]),
    (read_rows, [of_few(), ("text", rows_text(FEW, FEW_ROWS), "\n", ("InvalidText", 0))]),
    (journal_text, [("live", STORE, None, ("Mismatch", "live"))]),
    (read_journal, [of_few(), OF_RULES, ("text", JOURNAL, JOURNAL * 2, ("InvalidText", 1))]),
]

# What may be given as a list or as a tuple.
LISTS = ("state", "history", "kinds", "reads", "paper", "other", "concerns", "rows", "switches", "wishes", "profile",
         "having", "lacking", "value", "rules", "company", "steps", "one")



def by_position(function, rows, values):
    """The values, one for each row of a function, in the order of its heading."""
    named = {row[0]: value for row, value in zip(rows, values)}
    return [named[name] for name in inspect.signature(function).parameters]


def is_fine(name, odd):
    """Whether an odd value may be fine in the place of an argument."""
    if name in LISTS or name == "change":
        return isinstance(odd, (list, tuple)) and len(odd) == 0
    return (name == "after" and odd is None) or (name == "text" and odd == "") or (name == "live" and isinstance(odd, Live))


class OrderOfErrorsTest(unittest.TestCase):
    def test_the_first_wrong_argument_decides(self):
        for function, rows in CALLS:
            for mask in range(1 << len(rows)):
                values = [row[2] if mask >> k & 1 else row[1] for k, row in enumerate(rows)]
                wrong = [row[3] for k, row in enumerate(rows) if mask >> k & 1]
                answers = [told(function, *by_position(function, rows, values)),
                           told(function, **{row[0]: v for row, v in zip(rows, values)}),
                           told(function, **{row[0]: v for row, v in reversed(list(zip(rows, values)))})]
                for answer in answers:
                    if wrong:
                        self.assertEqual(answer, wrong[0], function)
                    else:
                        self.assertEqual(answer[0], "fine")

    def test_other_objects_in_the_place_of_each_argument(self):
        for function, rows in CALLS:
            values = [row[1] for row in rows]
            for k, row in enumerate(rows):
                for odd in odd_values():
                    if is_fine(row[0], odd):
                        continue
                    answer = told(function, *by_position(function, rows, values[:k] + [odd] + values[k + 1:]))
                    names = {"CircularBut": "InvalidSchema", "TooLarge": "Mismatch"}
                    self.assertEqual(answer[0], names.get(row[3][0], row[3][0]), (function, row[0]))
                    if row[3][0] in ("InvalidKind", "InvalidRelation", "InvalidObject", "InvalidUser", "InvalidToken"):
                        if row[0] != "kinds":
                            self.assertIs(answer[1], odd)

    def test_wrong_things_users_and_rights(self):
        for thing in (("user", 1), ("none", 1), ("doc", -1), ("doc", True), ("doc", "1"), ("doc",), ("doc", 1, 1),
                      ["doc", 1], (["doc"], 1), ("doc", [1]), (1, "doc"), "doc"):
            self.assertEqual(told(check, SCHEMA, STATE, thing, "see", USER), ("InvalidObject", thing))
            self.assertEqual(told(who_has, SCHEMA, STATE, thing, "see"), ("InvalidObject", thing))
        for user in (("doc", 5), ("none", 1), ("user", -1), ("user", False), ("user", "1"), ("user",), ("user", 1, 1),
                     ["user", 1], (["user"], 1), ("user", [1]), (1, "user"), "user"):
            self.assertEqual(told(check, SCHEMA, STATE, THING, "see", user), ("InvalidUser", user))
            self.assertEqual(told(rights_of, SCHEMA, STATE, user), ("InvalidUser", user))
        for relation in ("in", "up", "member", "none", "", ["see"], ("see",), None, b"see"):
            self.assertEqual(told(check, SCHEMA, STATE, THING, relation, USER), ("InvalidRelation", relation))
            self.assertEqual(told(who_has, SCHEMA, STATE, THING, relation), ("InvalidRelation", relation))


class NothingIsSharedTest(unittest.TestCase):
    def test_arguments_are_not_changed(self):
        for function, rows in CALLS:
            values = by_position(function, rows, [row[1] for row in rows])
            before = copy.deepcopy(values)
            function(*values)
            self.assertEqual(values, before)

    def test_lists_and_tuples_are_the_same_state(self):
        for function, rows in CALLS:
            values = by_position(function, rows, [row[1] for row in rows])
            others = [tuple(value) if isinstance(value, list) else value for value in values]
            self.assertEqual(function(*values), function(*others))
            if "history" in [row[0] for row in rows]:
                others[2] = [tuple(write) for write in others[2]]
                self.assertEqual(function(*values), function(*others))

    def test_returned_lists_are_new(self):
        for function, rows in CALLS:
            values = by_position(function, rows, [row[1] for row in rows])
            kept, given = function(*values), function(*values)
            for inner in [given] + list(given if isinstance(given, (list, tuple)) else []):
                if isinstance(inner, list):
                    inner.clear()
            self.assertEqual(function(*values), kept)

    def test_kinds_of_results(self):
        self.assertIs(check(SCHEMA, STATE, THING, "see", USER), True)
        self.assertIs(check(SCHEMA, STATE, THING, "see", ("user", 2)), False)
        answer = who_has(SCHEMA, STATE, THING, "see")
        self.assertEqual((type(answer), [type(part) for part in answer]), (tuple, [list, list]))
        for function, rows in CALLS:
            values = by_position(function, rows, [row[1] for row in rows])
            if function in (depends_on, strata, rights_of, named_users, never_told, paper_for, trimmed, places, listed,
                            things, snapshot, spans, answers, leaks, watch, session, spare_rows, thinned, greatest_sets,
                            switched, minimal_changes, effects, profiles, never, soundest, spare_parts, rows_lost, behind,
                            gains, keepers, grid, last_state, clashes, outcomes, read_rows):
                self.assertIs(type(function(*values)), list, function)
            if function in (check_schema, check_state, check_row, judge):
                self.assertIsNone(function(*values))
            if function in (expand, unfold, pruned, sure_from, page, came_and_went, difference, least_change, quiet_change,
                            state_for, can, profile_of, clean_order, without_part, rights_changed, may_write, growing,
                            clean_orders, rights_behind, read_schema):
                self.assertIs(type(function(*values)), tuple, function)
            if function in (agree, is_thin, always, is_sound, alike, may, can_come, shows_way, can_grow):
                self.assertIs(type(function(*values)), bool, function)
            if function in (schema_text, rows_text, journal_text):
                self.assertIs(type(function(*values)), str, function)
            if function in (calls_within, rank, depth_needed, weight, ways, count_sets):
                self.assertIs(type(function(*values)), int, function)


if __name__ == "__main__":
    unittest.main()
