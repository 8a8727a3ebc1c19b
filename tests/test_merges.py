"""[12.1] clean_orders, grid, [12.2] clean_order, first_refusal, last_state, [12.3] clashes, [12.4] outcomes."""

import math
import unittest

from relatedrights.merges import (
    clashes, clean_order, clean_orders, first_refusal, grid, last_state, outcomes, rights_behind,
)
from tests.samples import ANY, ONE, deep_list, deep_tuple, odd_values, told

SCHEMA = (("user", ()), ("doc", (("own", ANY), ("see", ("direct", (("one", "user"), ("all", "user")))), ("up", ("links", ("doc",))),
                                 ("edit", ("but", ("either", (ONE, ("same", "own"))), ("same", "ban"))), ("ban", ANY))))
RULES = [("doc", "own", "own", "own"), ("doc", "see", "edit", "edit"), ("doc", "ban", "own", "own")]
ANN, BOB, CID = ("user", 1), ("user", 2), ("user", 3)
DOC, FAR = ("doc", 7), ("doc", 8)
FUNCTIONS = (clean_orders, grid, clean_order, first_refusal, last_state, clashes, outcomes)


def row(user, relation="see", thing=DOC):
    return (thing, relation, ("one", user))


def put(user, what, there=(), absent=()):
    return (user, ("put", what), there, absent)


def take(user, what, there=(), absent=()):
    return (user, ("take", what), there, absent)


OWN = row(ANN, "own")
STATE = [OWN]


def asked(one, other, state=STATE, rules=RULES):
    """What the first six functions say of two lists of offers, given as lists and as tuples."""
    found = [function(SCHEMA, rules, state, one, other) for function in FUNCTIONS[:6]]
    assert found == [function(SCHEMA, tuple(rules), tuple(state), tuple(one), tuple(other)) for function in FUNCTIONS[:6]]
    return found


class ExampleTest(unittest.TestCase):
    def test_the_example_of_the_document(self):
        schema = (("user", ()), ("doc", (("own", ("direct", (("one", "user"),))), ("see", ("direct", (("one", "user"),))))))
        rules, ann, bob = [("doc", "see", "own", None)], ("user", 1), ("user", 2)
        state = [(("doc", 7), "own", ("one", ann))]
        offers = [(ann, ("put", (("doc", 7), "see", ("one", bob))), (), ())]
        self.assertEqual(
            [clean_orders(schema, rules, state, offers, offers), grid(schema, rules, state, offers, offers),
             first_refusal(schema, rules, state, offers, offers), clashes(schema, rules, state, offers, offers)],
            [(2, 0), [[1, 1], [1, 0]], (0, 1), [(0, 0)]])


class OrdersTest(unittest.TestCase):
    def test_the_empty_lists(self):
        self.assertEqual(asked([], []), [(1, 1), [[1]], (), None, [OWN], []])
        self.assertEqual(asked([put(ANN, row(BOB))], []), [(1, 1), [[1], [1]], (0,), None, [OWN, row(BOB)], []])
        self.assertEqual(asked([], [put(BOB, row(BOB))]), [(1, 0), [[1, 0]], None, (1,), None, []])
        self.assertEqual(asked([], [], STATE * 3), [(1, 1), [[1]], (), None, [OWN], []])

    def test_all_orders_are_clean(self):
        one = [put(ANN, row(BOB)), take(ANN, row(BOB))]
        other = [put(ANN, row(CID))]
        self.assertEqual(asked(one, other), [(3, 3), [[1, 1], [1, 2], [1, 3]], (0, 0, 1), None, [OWN, row(CID)], []])

    def test_offers_that_need_rows(self):
        one = [put(ANN, row(BOB)), put(ANN, row(CID), [row(ANN)])]
        other = [put(ANN, row(ANN), [row(BOB)])]
        self.assertEqual(asked(one, other), [
            (3, 1), [[1, 0], [1, 1], [0, 1]], (0, 1, 0), (1,), sorted([OWN, row(BOB), row(ANN), row(CID)]), []])
        # A row that no offer changes, there or not.
        self.assertEqual(asked([put(ANN, row(BOB), (OWN, OWN))], [])[0], (1, 1))
        self.assertEqual(asked([put(ANN, row(BOB), (row(BOB, "own"),))], [])[0], (1, 0))

    def test_offers_that_must_not_have_rows(self):
        one, other = [put(ANN, row(BOB), (), [row(CID)])], [put(ANN, row(CID))]
        self.assertEqual(asked(one, other), [(2, 1), [[1, 1], [1, 1]], (0, 1), (1, 0), sorted([OWN, row(BOB), row(CID)]), [(0, 0)]])
        self.assertEqual(asked([put(ANN, row(BOB), (), [OWN])], [])[0], (1, 0))
        self.assertEqual(asked([put(ANN, row(BOB), (), [row(BOB)])], [])[0], (1, 1))
        self.assertEqual(asked([put(ANN, row(BOB), [row(BOB)], [])], [])[0], (1, 0))

    def test_rights_that_other_offers_give_and_take(self):
        # Bob may put once he owns; Cid is banned once Ann has banned him.
        one, other = [put(ANN, row(BOB, "own"))], [put(BOB, row(CID))]
        self.assertEqual(asked(one, other), [(2, 1), [[1, 0], [1, 1]], (0, 1), (1,), sorted([OWN, row(BOB, "own"), row(CID)]), []])
        state = STATE + [row(CID, "edit")]
        self.assertEqual(asked([put(ANN, row(CID, "ban"))], [put(CID, row(CID))], state), [
            (2, 1), [[1, 1], [1, 1]], (1, 0), (0, 1), sorted(state + [row(CID, "ban"), row(CID)]), [(0, 0)]])

    def test_the_least_of_several(self):
        one = [put(ANN, row(ANN)), put(BOB, row(CID))]
        other = [put(ANN, row(BOB, "own")), put(ANN, row(BOB))]
        found = asked(one, other)
        self.assertEqual(found[0], (6, 5))
        self.assertEqual(found[2], (0, 1, 0, 1))
        self.assertEqual(found[3], (0, 0))
        # Longer beginnings are looked at only if all shorter ones are clean.
        late = [put(ANN, row(("user", k))) for k in (4, 5)]
        self.assertEqual(asked(late, late[::-1])[3], (0, 0, 1))
        self.assertEqual(asked(late, [put(ANN, row(("user", 6))), put(BOB, row(BOB))])[3], (1, 1))

    def test_clashes(self):
        one = [put(ANN, row(BOB)), put(ANN, row(CID))]
        other = [put(ANN, row(CID)), put(ANN, row(BOB))]
        found = asked(one, other)
        self.assertEqual(found[5], [(0, 1), (1, 0)])
        self.assertEqual(found[0], (6, 0))
        same = [put(ANN, row(BOB)), take(ANN, row(BOB)), put(ANN, row(BOB))]
        self.assertEqual(asked(same, same)[5], [(0, 0), (0, 2), (2, 0), (2, 2)])

    def test_30_offers_on_each_side_and_31(self):
        one = [put(ANN, row(("user", k))) for k in range(100, 131)]
        other = [put(ANN, row(("user", k))) for k in range(200, 231)]
        self.assertEqual(clean_orders(SCHEMA, RULES, STATE, one[:30], other[:30]), (math.comb(60, 30), math.comb(60, 30)))
        found = grid(SCHEMA, RULES, STATE, one[:30], other[:30])
        self.assertEqual(found, [[math.comb(i + j, i) for j in range(31)] for i in range(31)])
        self.assertEqual(clean_order(SCHEMA, RULES, STATE, one[:30], other[:30]), (0,) * 30 + (1,) * 30)
        self.assertIsNone(first_refusal(SCHEMA, RULES, STATE, one[:30], other[:30]))
        self.assertEqual(len(last_state(SCHEMA, RULES, STATE, one[:30], other[:30])), 61)
        self.assertEqual(clashes(SCHEMA, RULES, STATE, one[:30], one[29::-1]), [(k, 29 - k) for k in range(30)])
        for function in FUNCTIONS[:6]:
            self.assertEqual(told(function, SCHEMA, RULES, STATE, one, [5]), ("InvalidChange", -1))
            self.assertEqual(told(function, SCHEMA, RULES, STATE, one[:30], other), ("InvalidChange", -1))
            self.assertEqual(told(function, SCHEMA, RULES, STATE, [5] * 31, 5), ("InvalidChange", -1))
            self.assertEqual(told(function, SCHEMA, RULES, STATE, one[:29] + [5], other), ("InvalidChange", 29))


class OutcomesTest(unittest.TestCase):
    def test_each_state_and_how_many_orders_lead_to_it(self):
        one, other = [put(ANN, row(BOB)), put(ANN, row(CID), [row(BOB)])], [take(ANN, row(BOB))]
        # Taken ahead of the put, between, and behind both.
        self.assertEqual(outcomes(SCHEMA, RULES, STATE, one, other), [
            ((OWN,), 1), ((OWN, row(BOB), row(CID)), 1), ((OWN, row(CID)), 1)])
        self.assertEqual(outcomes(SCHEMA, RULES, STATE, [], []), [((OWN,), 1)])
        self.assertEqual(outcomes(SCHEMA, RULES, STATE * 2, [], ()), [((OWN,), 1)])
        self.assertEqual(outcomes(SCHEMA, RULES, [], one, other), [((), 3)])
        self.assertEqual(rights_behind(SCHEMA, RULES, STATE, one, other, DOC, "see", BOB), (1, 2))
        self.assertEqual(rights_behind(SCHEMA, RULES, STATE, one, other, DOC, "see", CID), (2, 1))
        self.assertEqual(rights_behind(SCHEMA, RULES, STATE, [], [], DOC, "edit", ANN), (1, 0))
        self.assertEqual(rights_behind(SCHEMA, RULES, STATE, one, other, FAR, "edit", ANN), (0, 3))

    def test_six_and_seven(self):
        one = [put(ANN, row(("user", k))) for k in range(7)]
        other = [take(ANN, row(("user", k))) for k in range(7)]
        found = outcomes(SCHEMA, RULES, STATE, one[:6], other[:6])
        self.assertEqual(sum(number for _, number in found), 924)
        self.assertEqual(found, sorted(found))
        self.assertEqual(sum(rights_behind(SCHEMA, RULES, STATE, one[:6], other[:6], DOC, "see", ("user", 3))), 924)
        for wrong in ((one, other), (one[:6], other), (one, [5]), ([5] * 7, []), ([], [5] * 7), (5, other), (one[:6], None)):
            self.assertEqual(told(outcomes, SCHEMA, RULES, STATE, *wrong), ("InvalidChange", -1))
            self.assertEqual(told(rights_behind, SCHEMA, RULES, STATE, *wrong, 5, 5, 5), ("InvalidChange", -1))
        self.assertEqual(told(outcomes, SCHEMA, RULES, STATE, one[:2] + [5], other), ("InvalidChange", 2))
        self.assertEqual(told(outcomes, SCHEMA, RULES, STATE, one[:6], [5]), ("InvalidChange", 0))

    def test_errors_behind_the_offers(self):
        self.assertEqual(told(rights_behind, SCHEMA, RULES, STATE, [], [], ANN, "none", DOC), ("InvalidObject", ANN))
        self.assertEqual(told(rights_behind, SCHEMA, RULES, STATE, [], [], DOC, "up", DOC), ("InvalidRelation", "up"))
        self.assertEqual(told(rights_behind, SCHEMA, RULES, STATE, [], [], DOC, "see", DOC), ("InvalidUser", DOC))


class OffersTest(unittest.TestCase):
    def test_what_is_no_list_of_offers(self):
        for offers in (None, {}, set(), "", 5, iter([])):
            for function in FUNCTIONS:
                self.assertEqual(told(function, SCHEMA, RULES, STATE, offers, 5), ("InvalidChange", -1))
                self.assertEqual(told(function, SCHEMA, RULES, STATE, [], offers), ("InvalidChange", -1))

    def test_what_is_no_offer(self):
        fine = put(ANN, row(BOB))
        wrong = [fine[:3], fine + ((),), list(fine), (DOC,) + fine[1:], put(("user", True), row(BOB)), put(ANN, row(BOB), [5]),
                 put(ANN, row(BOB), OWN), put(ANN, row(BOB), (), {OWN}), put(ANN, row(BOB), None), put(ANN, DOC),
                 (ANN, ("drop", row(BOB)), (), ()), (ANN, row(BOB), (), ()), put(ANN, row(("user", True)))]
        for odd in odd_values() + [deep_tuple(), deep_list()]:
            wrong += [odd, (odd,) + fine[1:], fine[:1] + (odd,) + fine[2:], put(ANN, row(BOB), [odd]), put(ANN, row(BOB), [], (OWN, odd))]
            if not isinstance(odd, (list, tuple)) or len(odd) > 0:
                wrong += [put(ANN, row(BOB), odd), put(ANN, row(BOB), (), odd)]
        for offer in wrong:
            for function in FUNCTIONS:
                self.assertEqual(told(function, SCHEMA, RULES, STATE, [fine, offer], [5]), ("InvalidChange", 1))
                self.assertEqual(told(function, SCHEMA, RULES, STATE, (fine,), (fine, fine, offer)), ("InvalidChange", 2))

    def test_errors_ahead_of_offers(self):
        for function in FUNCTIONS:
            self.assertEqual(told(function, SCHEMA, [5], STATE, 5, 5), ("InvalidRules", 0))
            self.assertEqual(told(function, SCHEMA, [5], [5], 5, 5), ("InvalidState", 0))
            self.assertEqual(told(function, (5,), [5], [5], 5, 5), ("InvalidSchema", (0,)))


if __name__ == "__main__":
    unittest.main()
