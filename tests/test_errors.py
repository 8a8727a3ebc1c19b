"""Errors: how they are made, and what they are."""

import unittest

from relatedrights import errors
from tests.samples import GREAT, odd_values

ATTRIBUTES = {
    "InvalidSchema": ("path",),
    "CircularBut": ("kind", "relation"),
    "InvalidState": ("index",),
    "InvalidObject": ("value",),
    "InvalidUser": ("value",),
    "InvalidRelation": ("relation",),
    "InvalidKind": ("kind",),
    "InvalidNumber": ("name",),
    "InvalidChange": ("index",),
    "InvalidToken": ("token",),
    "InvalidTree": ("path",),
    "InvalidRules": ("index",),
    "InvalidText": ("place",),
    "TooLarge": ("limit",),
    "Mismatch": ("name",),
}


class ErrorsTest(unittest.TestCase):
    def test_these_fifteen_and_no_others_stand_directly_under_rights_error(self):
        self.assertEqual({one.__name__ for one in errors.RightsError.__subclasses__()}, set(ATTRIBUTES))
        for word in ATTRIBUTES:
            one = getattr(errors, word)
            self.assertEqual(one.__bases__, (errors.RightsError,), word)
            self.assertEqual(one.__subclasses__(), [], word)
            self.assertEqual(one.__module__, "relatedrights.errors")

    def test_rights_error_stands_directly_under_value_error(self):
        self.assertEqual(errors.RightsError.__bases__, (ValueError,))

    def test_by_position(self):
        for word, names in ATTRIBUTES.items():
            values = [object() for _ in names]
            error = getattr(errors, word)(*values)
            for name, value in zip(names, values):
                self.assertIs(getattr(error, name), value, word)

    def test_by_keyword(self):
        for word, names in ATTRIBUTES.items():
            values = {name: object() for name in names}
            error = getattr(errors, word)(**values)
            self.assertEqual(vars(error), values, word)

    def test_circular_but_takes_its_keywords_in_any_order(self):
        error = errors.CircularBut(relation="see", kind="doc")
        self.assertEqual((error.kind, error.relation), ("doc", "see"))

    def test_any_values_and_their_messages(self):
        for value in odd_values() + [GREAT, -GREAT, [GREAT], (GREAT,), {GREAT: GREAT}]:
            for word, names in ATTRIBUTES.items():
                one = getattr(errors, word)
                for error in (one(*[value] * len(names)), one(**{name: value for name in names})):
                    self.assertTrue(all(getattr(error, name) is value for name in names))
                    self.assertIsInstance(str(error), str)
                    self.assertIsInstance(repr(error), str)

    def test_too_few_and_too_many_values_are_refused(self):
        for word, names in ATTRIBUTES.items():
            with self.assertRaises(TypeError):
                getattr(errors, word)(*[1] * (len(names) - 1))
            with self.assertRaises(TypeError):
                getattr(errors, word)(*[1] * (len(names) + 1))

    def test_they_are_raised_and_caught(self):
        for word, names in ATTRIBUTES.items():
            for wider in (getattr(errors, word), errors.RightsError, ValueError):
                with self.assertRaises(wider):
                    raise getattr(errors, word)(*names)


if __name__ == "__main__":
    unittest.main()
