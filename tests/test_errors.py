"""[20] and [4]: the error classes."""

import unittest

from cutoutpieces import errors
from samples import odd_values

FIELDS = {
    "Wrong": "place", "Full": "limit", "Deep": "limit", "Many": "limit", "Twice": "mark", "NotLast": "address",
    "NoLoop": "address", "NoRow": "address", "NoGap": "gap", "NoMark": "mark", "NoSpot": "at", "BadWord": "index",
    "NoStretch": "stretch", "NoName": "name", "Untold": "way", "BadMark": "mark", "Overlap": "mark",
    "TooMany": "most", "Refused": "deed", "NoEntry": "many",
}
BARE = ["BadDeed", "Nothing", "NoText", "NoCommand"]


class ErrorsTest(unittest.TestCase):
    def test_classes(self):
        self.assertIs(errors.PieceError.__base__, ValueError)
        for name in [*FIELDS, *BARE]:
            with self.subTest(name=name):
                self.assertEqual(getattr(errors, name).__bases__, (errors.PieceError,))
                self.assertEqual(getattr(errors, name).__module__, "cutoutpieces.errors")

    def test_there_are_no_others(self):
        told = [name for name, held in vars(errors).items() if isinstance(held, type)]
        self.assertEqual(sorted(told), sorted([*FIELDS, *BARE, "PieceError"]))

    def test_keep_the_object_itself(self):
        for name, field in FIELDS.items():
            for thing in odd_values():
                made = getattr(errors, name)(thing)
                self.assertIs(getattr(made, field), thing)

    def test_by_keyword(self):
        for name, field in FIELDS.items():
            thing = [1]
            self.assertIs(getattr(getattr(errors, name)(**{field: thing}), field), thing)

    def test_a_list_is_not_copied(self):
        held = [1]
        error = errors.NoRow(held)
        held.append(2)
        self.assertEqual(error.address, [1, 2])

    def test_number_of_arguments(self):
        for name in FIELDS:
            with self.assertRaises(TypeError):
                getattr(errors, name)()
            with self.assertRaises(TypeError):
                getattr(errors, name)(1, 2)

    def test_bare_ones(self):
        for name in BARE:
            with self.assertRaises(errors.PieceError):
                raise getattr(errors, name)()

    def test_the_class_above_takes_any_values(self):
        for thing in odd_values():
            self.assertIsInstance(errors.PieceError(thing), ValueError)
        self.assertIsInstance(errors.PieceError(), ValueError)
        self.assertIsInstance(errors.PieceError(1, [2], None), ValueError)

    def test_can_be_shown(self):
        for name in FIELDS:
            self.assertIsInstance(str(getattr(errors, name)((1, "x"))), str)
