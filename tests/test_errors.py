"""The classes of the refusals."""

import unittest

from bitfloor import errors

PLAIN = ("NoRow", "NoTables", "NoPack", "NoFloor", "OutOfFloor", "NoRoom")
WITH_FIELD = {"NoText": "line", "NoSense": "line", "NoNet": "gate", "NoWays": "signal", "NoBits": "why"}


class ErrorsTest(unittest.TestCase):
    def test_every_refusal_stands_straight_under_floor_error(self):
        self.assertEqual(errors.FloorError.__bases__, (ValueError,))
        for name in PLAIN + tuple(WITH_FIELD):
            self.assertEqual(getattr(errors, name).__bases__, (errors.FloorError,), name)

    def test_fields_are_set_when_it_is_made(self):
        for name, field in WITH_FIELD.items():
            for value in (0, 7, -1, "ring"):
                self.assertEqual(getattr(getattr(errors, name)(value), field), value)

    def test_plain_ones_take_words(self):
        for name in PLAIN + ("FloorError",):
            self.assertIsInstance(getattr(errors, name)("words"), errors.FloorError)


if __name__ == "__main__":
    unittest.main()
