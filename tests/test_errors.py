"""The refusals' classes."""

import unittest

from lostseat import errors

NAMES = ("BadNight", "BadOrder", "BadGuest", "BadSeat", "BadTurn", "BadSeats", "BadPairs", "BadSeating",
         "BadNumber", "TooMany", "NotSo", "AllCame")


class Classes(unittest.TestCase):
    def test_straight_under_seat_error(self):
        for name in NAMES:
            self.assertEqual(getattr(errors, name).__bases__, (errors.SeatError,), name)

    def test_seat_error(self):
        self.assertEqual(errors.SeatError.__bases__, (ValueError,))

    def test_no_two_are_one(self):
        self.assertEqual(len({getattr(errors, name) for name in NAMES}), len(NAMES))
        self.assertEqual([getattr(errors, name).__name__ for name in NAMES], list(NAMES))


if __name__ == "__main__":
    unittest.main()
