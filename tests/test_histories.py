"""[6.1] snapshot to [6.7] session: edges and wrong inputs."""

import unittest

from relatedrights.histories import (
    answers, came_and_went, closed_by, leaks, session, snapshot, spans, sure_from, watch,
)
from tests.samples import ANY, GREAT, ONE, deep_list, deep_tuple, odd_values, told

DOC, FAR, ANN, BOB = ("doc", 1), ("doc", 2), ("user", 3), ("user", 4)
SCHEMA = (("user", ()), ("doc", (("up", ("links", ("doc",))), ("own", ANY), ("ban", ONE),
                                 ("see", ("but", ("either", (("same", "own"), ("through", "up", "see"))),
                                          ("same", "ban"))))), ("area", (("own", ONE),)))


def gives(user, thing=DOC, relation="own"):
    return (thing, relation, ("one", user))


ROW, BAN, LINK = gives(ANN), gives(ANN, DOC, "ban"), (DOC, "up", ("one", FAR))
# Ann has the right in the snapshots 0, 1, 4, 5 and 7.
HISTORY = [[], [("take", ROW)], [("put", BAN), ("put", LINK)], [("put", ROW), ("take", BAN)], [("put", gives(BOB))],
           [("put", BAN)], [("take", BAN)]]
TRUTHS = [True, True, False, False, True, True, False, True]
QUESTION = (DOC, "see", ANN)


class ExamplesTest(unittest.TestCase):
    def test_the_examples_of_the_document(self):
        schema = (("user", ()), ("doc", (("see", ("direct", (("one", "user"),))),)))
        doc, ann = ("doc", 1), ("user", 3)
        row = (doc, "see", ("one", ann))
        history = [[("take", row)], [], [("put", row)]]
        self.assertEqual(
            [spans(schema, [row], history, doc, "see", ann), answers(schema, [row], history, 0, 1, doc, "see", ann),
             sure_from(schema, [row], history, 0, doc, "see", ann)],
            [[(0, 0), (3, 3)], [False, True], (3, True)])
        self.assertEqual(
            [leaks(schema, [row], history, 0, 0, 1, 2, doc, "see", ann),
             closed_by(schema, [row], history[:2], 0, 1, 2, doc, "see", ann),
             session(schema, [row], history, 0, [(0, doc, "see", ann, False), (0, doc, "see", ann, True)])],
            [[0, 3], 1, [1, 3]])


class HistoryTest(unittest.TestCase):
    def wrong(self, history, index):
        self.assertEqual(told(snapshot, SCHEMA, [], history, 0), ("InvalidChange", index))
        self.assertEqual(told(spans, SCHEMA, [], history, None, None, None), ("InvalidChange", index))
        self.assertEqual(told(session, SCHEMA, [], history, None, None), ("InvalidChange", index))

    def test_what_is_no_history(self):
        for history in (None, {}, set(), "", 5, iter([]), {0: []}):
            self.wrong(history, -1)
        for odd in odd_values() + [deep_tuple(), deep_list()]:
            if not isinstance(odd, (list, tuple)):
                self.wrong(odd, -1)
                self.wrong([[], odd], 1)
            elif len(odd) > 0:
                self.wrong(odd, 0)
                self.wrong(([], odd), 1)
            for change in (odd, (odd, ROW), ("put", odd), ("put", (odd, "own", ("one", ANN))), ("put", (DOC, "own", odd))):
                self.wrong([[("put", ROW)], [], [change]], 2)

    def test_what_is_no_change(self):
        for change in (("put",), ("put", ROW, 1), ["put", ROW], ("Put", ROW), ("", ROW), (b"put", ROW), (ROW, "put"),
                       ("put", list(ROW)), ("put", (DOC, "see", ("one", ANN))), ("take", (DOC, "own", ("one", DOC))),
                       ("put", (("doc", True), "own", ("one", ANN))), ("put", (DOC, "own", ("one", ("user", False)))),
                       "put", ("put", ROW[:2]), ("drop", ROW)):
            self.wrong([[("put", ROW)], [("take", BAN), change]], 1)

    def test_rows_twice_in_a_write(self):
        for one in ("put", "take"):
            for other in ("put", "take"):
                self.wrong([[], [], [(one, ROW), ("put", BAN), (other, ROW)]], 2)
        self.assertEqual(snapshot(SCHEMA, [], [[("put", ROW)], [("take", ROW)], [("put", ROW)]], 3), [ROW])

    def test_the_first_wrong_write(self):
        self.wrong([[], [5], None, [5]], 1)
        self.wrong([[], [("put", ROW)], None, [5]], 2)

    def test_histories_that_are_nearly_the_one_that_was_asked_for_before(self):
        rows = [gives(("user", 1)), (("doc", 1), "up", ("one", ("doc", 1))), (DOC, "own", ("all", "user"))]
        fine = [[("put", rows[0])], [("take", row) for row in rows], [("put", rows[2])]]
        for one in (True, 1 + 0j):
            for k, row in enumerate([(("doc", one), "own", ("one", ("user", 1))), (DOC, "own", ("one", ("user", one))),
                                     (("doc", one), "up", ("one", DOC)), (DOC, "up", ("one", ("doc", one))),
                                     (("doc", one), "own", ("all", "user"))]):
                spoilt = [list(write) for write in fine]
                spoilt[1][(0, 0, 1, 1, 2)[k]] = ("take", row)
                self.assertEqual(spoilt, fine)
                for history in (fine, tuple(fine)):
                    self.assertEqual(snapshot(SCHEMA, [], history, 3), [rows[2]])
                    self.wrong(spoilt, 1)
                    self.assertEqual(snapshot(SCHEMA, [], history, 1), [rows[0]])
                    self.wrong(tuple(spoilt), 1)
                # Each row by itself, too.
                only = [("take", (rows[0], rows[0], rows[1], rows[1], rows[2])[k])]
                self.assertEqual(snapshot(SCHEMA, [], [only], 1), [])
                self.wrong([[("take", row)]], 0)
        history = [[("put", rows[0])], [("take", rows[0])]]
        for known in (history, tuple(history)):
            self.assertEqual(snapshot(SCHEMA, [], known, 2), [])
            history[1].append(5)
            self.wrong(known, 1)
            history[1].pop()
            self.assertEqual(snapshot(SCHEMA, [], known, 1), [rows[0]])
        # What is a history by one schema need not be one by another.
        self.assertEqual(snapshot(SCHEMA, [], history, 0), [])
        other = (("user", ()), ("doc", (("own", ("direct", (("all", "user"),))),)))
        self.assertEqual(told(snapshot, other, [], history, 0), ("InvalidChange", 0))
        self.assertEqual(snapshot(SCHEMA, [], history, 0), [])

    def test_50_changes_and_51(self):
        rows = [("put", gives(("user", k))) for k in range(51)]
        self.assertEqual(len(snapshot(SCHEMA, [], [rows[:50]], 1)), 50)
        self.assertEqual(len(snapshot(SCHEMA, [], [tuple(rows[:50])], 1)), 50)
        self.wrong([[], rows], 1)
        self.wrong([tuple(rows)], 0)

    def test_200_writes_and_201(self):
        self.assertEqual(snapshot(SCHEMA, [], [[]] * 199 + [[("put", ROW)]], 200), [ROW])
        self.wrong([[]] * 201, -1)
        self.wrong(([5],) * 201, -1)
        self.wrong([5] * 200, 0)

    def test_more_than_2000_rows(self):
        state = [gives(("user", k)) for k in range(2000)]
        history = [[("put", gives(("user", 2000 + 50 * k + j))) for j in range(50)] for k in range(200)]
        rows = [gives(("user", k)) for k in range(12000)]
        self.assertEqual(snapshot(SCHEMA, state, history, 200), rows)
        self.assertEqual(snapshot(SCHEMA, state, history, 1), rows[:2050])
        self.assertEqual(spans(SCHEMA, state, history, DOC, "see", ("user", 7000)), [(101, 200)])
        self.assertEqual(answers(SCHEMA, state, history, 0, 0, DOC, "see", ("user", 12000)), [False])
        came, went = came_and_went(SCHEMA, state, history, 200, 0, ("user", 11999))
        self.assertEqual((came, went), ([], [(DOC, "own"), (DOC, "see")]))

    def test_kept_and_tokens_at_both_ends_and_outside(self):
        newest = len(HISTORY)
        state = [ROW]
        for token in (0, newest):
            self.assertEqual(told(snapshot, SCHEMA, state, HISTORY, token)[0], "fine")
            self.assertEqual(told(answers, SCHEMA, state, HISTORY, token, token, *QUESTION)[0], "fine")
            self.assertEqual(told(sure_from, SCHEMA, state, HISTORY, token, *QUESTION)[0], "fine")
            self.assertEqual(told(leaks, SCHEMA, state, HISTORY, token, token, token, token, *QUESTION)[0], "fine")
            self.assertEqual(told(closed_by, SCHEMA, state, HISTORY, token, token, token, *QUESTION)[0], "fine")
            self.assertEqual(told(watch, SCHEMA, state, HISTORY, token, [])[0], "fine")
            self.assertEqual(told(came_and_went, SCHEMA, state, HISTORY, token, token, ANN)[0], "fine")
            self.assertEqual(told(session, SCHEMA, state, HISTORY, token, [])[0], "fine")
        for token in (-1, newest + 1, GREAT, -GREAT, True, False, None, "0", [0], (0,)):
            wrong = ("InvalidToken", token)
            kept = ("InvalidNumber", "kept")
            self.assertEqual(told(snapshot, SCHEMA, state, HISTORY, token), wrong)
            self.assertEqual(told(answers, SCHEMA, state, HISTORY, token, token, *QUESTION), kept)
            self.assertEqual(told(answers, SCHEMA, state, HISTORY, 0, token, *QUESTION), wrong)
            self.assertEqual(told(sure_from, SCHEMA, state, HISTORY, token, *QUESTION), kept)
            self.assertEqual(told(leaks, SCHEMA, state, HISTORY, token, 0, 0, 0, *QUESTION), kept)
            self.assertEqual(told(leaks, SCHEMA, state, HISTORY, 0, token, 0, 0, *QUESTION), wrong)
            self.assertEqual(told(leaks, SCHEMA, state, HISTORY, 0, 0, token, 0, *QUESTION), wrong)
            self.assertEqual(told(leaks, SCHEMA, state, HISTORY, 0, 0, 0, token, None, None, None), wrong)
            self.assertEqual(told(closed_by, SCHEMA, state, HISTORY, token, 0, 0, *QUESTION), kept)
            self.assertEqual(told(closed_by, SCHEMA, state, HISTORY, 0, token, 9, *QUESTION), wrong)
            self.assertEqual(told(closed_by, SCHEMA, state, HISTORY, 0, 1, token, *QUESTION), wrong)
            self.assertEqual(told(watch, SCHEMA, state, HISTORY, token, None), wrong)
            self.assertEqual(told(came_and_went, SCHEMA, state, HISTORY, token, 99, None), wrong)
            self.assertEqual(told(came_and_went, SCHEMA, state, HISTORY, 0, token, None), wrong)
            self.assertEqual(told(session, SCHEMA, state, HISTORY, token, None), kept)

    def test_the_state_alone(self):
        self.assertEqual(snapshot(SCHEMA, [ROW, BAN, ROW], [], 0), [BAN, ROW])
        self.assertEqual(spans(SCHEMA, [ROW], (), *QUESTION), [(0, 0)])
        self.assertEqual(spans(SCHEMA, [], [], *QUESTION), [])
        self.assertEqual(sure_from(SCHEMA, [], [], 0, *QUESTION), (0, False))
        self.assertEqual(watch(SCHEMA, [ROW], [], 0, ["doc"]), [])
        self.assertEqual(session(SCHEMA, [ROW], [], 0, [(0, *QUESTION, True)] * 3), [0, 0, 0])


class SnapshotsTest(unittest.TestCase):
    def test_writes_that_change_nothing(self):
        history = [[("put", ROW)], [("take", BAN)], [("take", ROW), ("take", LINK)], [("take", ROW)]]
        self.assertEqual([snapshot(SCHEMA, [ROW, ROW], history, k) for k in range(5)], [[ROW]] * 3 + [[]] * 2)
        self.assertEqual(watch(SCHEMA, [ROW, ROW], history, 0, ["doc"]), [(3, (("take", ROW),))])

    def test_rows_are_ascending(self):
        rows = [gives(BOB), ROW, (DOC, "own", ("all", "user")), LINK, BAN, gives(ANN, ("doc", 10)), gives(ANN, ("area", 9)),
                gives(ANN, FAR)]
        expected = [gives(ANN, ("area", 9)), BAN, (DOC, "own", ("all", "user")), ROW, gives(BOB), LINK, gives(ANN, FAR),
                    gives(ANN, ("doc", 10))]
        self.assertEqual(snapshot(SCHEMA, rows[:4], [[("put", row) for row in rows[4:]]], 1), expected)
        self.assertEqual(snapshot(SCHEMA, rows + rows, [], 0), expected)

    def test_put_and_take_of_the_same_rows_brings_all_back(self):
        rows = [BAN, LINK, gives(BOB)]
        history = [[("put", row) for row in rows], [("take", row) for row in rows]]
        self.assertEqual(snapshot(SCHEMA, [ROW], history, 2), snapshot(SCHEMA, [ROW], history, 0))


class AnswersTest(unittest.TestCase):
    def test_spans(self):
        self.assertEqual(spans(SCHEMA, [ROW], HISTORY, *QUESTION), [(0, 1), (4, 5), (7, 7)])
        self.assertEqual(spans(SCHEMA, [ROW], HISTORY, DOC, "see", BOB), [(5, 7)])
        self.assertEqual(spans(SCHEMA, [ROW], HISTORY, ("doc", 99), "see", ANN), [])
        self.assertEqual(spans(SCHEMA, [ROW], [[]] * 200, *QUESTION), [(0, 200)])

    def test_answers_of_all_kept_snapshots_from_the_token_on(self):
        for kept in range(8):
            for token in range(8):
                self.assertEqual(answers(SCHEMA, [ROW], HISTORY, kept, token, *QUESTION),
                                 sorted(set(TRUTHS[max(kept, token):])))

    def test_sure_from(self):
        self.assertEqual([sure_from(SCHEMA, [ROW], HISTORY, kept, *QUESTION) for kept in range(8)],
                         [(7, True)] * 7 + [(0, True)])
        self.assertEqual([sure_from(SCHEMA, [ROW], HISTORY[:5], kept, *QUESTION) for kept in range(6)],
                         [(4, True)] * 4 + [(0, True)] * 2)

    def test_rights_of_far_things_change_the_answer(self):
        history = [[("put", LINK)], [("put", gives(ANN, ("doc", 3)))], [("put", (FAR, "up", ("one", ("doc", 3))))],
                   [("put", gives(BOB, ("doc", 50)))], [("put", gives(ANN, FAR, "ban"))]]
        self.assertEqual(spans(SCHEMA, [], history, *QUESTION), [(3, 4)])


class LeaksTest(unittest.TestCase):
    def test_who_had_the_right_then_sees_nothing_new(self):
        for first, last in ((0, 0), (1, 2), (3, 4), (0, 7)):
            self.assertEqual(leaks(SCHEMA, [ROW], HISTORY, 0, 0, first, last, *QUESTION), [])
            self.assertEqual(closed_by(SCHEMA, [ROW], HISTORY, 0, first, last, *QUESTION), 0)

    def test_old_rights_and_new_ones(self):
        self.assertEqual(leaks(SCHEMA, [ROW], HISTORY, 0, 0, 2, 3, *QUESTION), [0, 1, 4, 5, 7])
        self.assertEqual(leaks(SCHEMA, [ROW], HISTORY, 1, 0, 2, 3, *QUESTION), [1, 4, 5, 7])
        self.assertEqual(leaks(SCHEMA, [ROW], HISTORY, 1, 5, 2, 3, *QUESTION), [5, 7])
        self.assertEqual(leaks(SCHEMA, [ROW], HISTORY, 6, 2, 2, 2, *QUESTION), [7])
        self.assertEqual(leaks(SCHEMA, [ROW], HISTORY[:3], 0, 2, 2, 3, *QUESTION), [])

    def test_closed_by(self):
        self.assertIsNone(closed_by(SCHEMA, [ROW], HISTORY, 0, 2, 3, *QUESTION))
        self.assertEqual(closed_by(SCHEMA, [ROW], HISTORY[:6], 0, 2, 3, *QUESTION), 6)
        self.assertEqual(closed_by(SCHEMA, [ROW], HISTORY[:3], 0, 2, 3, *QUESTION), 2)
        self.assertEqual(closed_by(SCHEMA, [ROW], HISTORY[:3], 1, 2, 3, *QUESTION), 2)
        self.assertEqual(closed_by(SCHEMA, [ROW], HISTORY[:3], 2, 2, 3, *QUESTION), 0)
        self.assertEqual(closed_by(SCHEMA, [ROW], HISTORY, 0, 0, 7, DOC, "see", ("user", 99)), 0)

    def test_last_ahead_of_first(self):
        for first, last in ((1, 0), (7, 6), (3, 0)):
            wrong = ("InvalidToken", last)
            self.assertEqual(told(leaks, SCHEMA, [ROW], HISTORY, 0, 0, first, last, None, None, None), wrong)
            self.assertEqual(told(closed_by, SCHEMA, [ROW], HISTORY, 0, first, last, None, None, None), wrong)


class WatchTest(unittest.TestCase):
    def test_changes_behind_the_token(self):
        puts = [("put", gives(ANN, ("area", 1))), ("put", ROW), ("take", BAN), ("put", gives(BOB, ("area", 2)))]
        history = [puts, [("take", LINK)], [("take", ROW), ("take", gives(BOB, ("area", 2)))]]
        state = [LINK, LINK]
        self.assertEqual(watch(SCHEMA, state, history, 0, ["doc"]),
                         [(1, (("put", ROW),)), (2, (("take", LINK),)), (3, (("take", ROW),))])
        self.assertEqual(watch(SCHEMA, state, history, 0, ("area",)), [(1, (puts[0], puts[3])), (3, (history[2][1],))])
        self.assertEqual(watch(SCHEMA, state, history, 0, ["area", "doc", "doc"]),
                         [(1, (puts[0], puts[1], puts[3])), (2, (("take", LINK),)), (3, tuple(history[2]))])
        self.assertEqual(watch(SCHEMA, state, history, 2, ["area"]), [(3, (history[2][1],))])
        self.assertEqual(watch(SCHEMA, state, history, 3, ["area"]), [])
        self.assertEqual(watch(SCHEMA, state, history, 0, []), [])

    def test_kinds(self):
        for kinds in (None, "doc", 5, {}, {"doc"}, {"doc": True}, iter(["doc"])):
            answer = told(watch, SCHEMA, [], [], 0, kinds)
            self.assertEqual(answer[0], "InvalidKind")
            self.assertIs(answer[1], kinds)
        for kind in ("user", "none", "", None, ["doc"], 1, deep_tuple()):
            answer = told(watch, SCHEMA, [], [], 0, ["doc", kind, 7])
            self.assertEqual(answer[0], "InvalidKind")
            self.assertIs(answer[1], kind)


class CameAndWentTest(unittest.TestCase):
    def test_both_ways(self):
        history = [[("take", ROW), ("put", gives(ANN, FAR))], [("put", gives(ANN, ("area", 5)))], []]
        came = [(("area", 5), "own"), (FAR, "own"), (FAR, "see")]
        went = [(DOC, "own"), (DOC, "see")]
        for other in (2, 3):
            self.assertEqual(came_and_went(SCHEMA, [ROW], history, 0, other, ANN), (came, went))
            self.assertEqual(came_and_went(SCHEMA, [ROW], history, other, 0, ANN), (went, came))
        self.assertEqual(came_and_went(SCHEMA, [ROW], history, 2, 3, ANN), ([], []))
        self.assertEqual(came_and_went(SCHEMA, [ROW], history, 1, 1, ANN), ([], []))
        self.assertEqual(came_and_went(SCHEMA, [ROW], history, 0, 3, BOB), ([], []))


class SessionTest(unittest.TestCase):
    def read(self, token, answer, user=ANN):
        return (token, DOC, "see", user, answer)

    def test_the_lowest_snapshots(self):
        for kept, reads, expected in (
            (0, [], []), (0, [(0, True)], [0]), (0, [(0, False)], [2]), (3, [(0, True)], [4]), (0, [(3, False)], [3]),
            (0, [(0, True), (0, False), (0, True), (0, False), (0, True)], [0, 2, 4, 6, 7]),
            (0, [(0, True), (0, False), (0, True), (0, False), (0, True), (0, False)], None),
            (0, [(5, True), (0, False), (0, False)], [5, 6, 6]), (7, [(0, False)], None), (7, [(0, True)], [7]),
            (0, [(6, False), (0, True), (0, False)], None), (0, [(0, False), (0, True)], [2, 4]),
        ):
            self.assertEqual(session(SCHEMA, [ROW], HISTORY, kept, [self.read(*read) for read in reads]), expected)

    def test_reads_of_several_users_and_rights(self):
        reads = [self.read(0, False, BOB), self.read(0, True, BOB), (0, DOC, "ban", ANN, True), self.read(0, False)]
        self.assertEqual(session(SCHEMA, [ROW], HISTORY, 0, reads), [0, 5, 6, 6])
        self.assertIsNone(session(SCHEMA, [ROW], HISTORY, 0, reads[::-1] + [self.read(0, False, BOB)]))

    def test_100_reads_and_one_more(self):
        reads = [self.read(0, True)] * 100
        self.assertEqual(session(SCHEMA, [ROW], HISTORY, 0, reads), [0] * 100)
        self.assertEqual(told(session, SCHEMA, [ROW], HISTORY, 0, reads + reads[:1]), ("Mismatch", "reads"))

    def test_what_are_no_reads(self):
        fine = self.read(0, True)
        for k, wrongs in enumerate([
            (-1, 8, True, None, "0", [0]), (ANN, ("doc", True), ["doc", 1], None), ("up", "none", None, ["see"], "own "),
            (DOC, ("user", True), None, ["user", 3]), (0, 1, None, "True", [True]),
        ]):
            for wrong in wrongs:
                read = fine[:k] + (wrong,) + fine[k + 1:]
                self.assertEqual(told(session, SCHEMA, [ROW], HISTORY, 0, [fine, read]), ("Mismatch", "reads"))
        for odd in odd_values():
            if odd not in ([], ()):
                self.assertEqual(told(session, SCHEMA, [ROW], HISTORY, 0, odd), ("Mismatch", "reads"))
            self.assertEqual(told(session, SCHEMA, [ROW], HISTORY, 0, [fine, odd]), ("Mismatch", "reads"))
        for read in (fine[:4], fine + (1,), list(fine), deep_tuple()):
            self.assertEqual(told(session, SCHEMA, [ROW], HISTORY, 0, (read,)), ("Mismatch", "reads"))


if __name__ == "__main__":
    unittest.main()
