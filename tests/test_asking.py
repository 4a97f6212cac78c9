"""Promises 1 and 8: evenings with asking, against all their ways gone through one by one."""

import unittest
from collections import Counter
from fractions import Fraction

from lostseat import errors
from lostseat.asking import asked, share_back

import ways

BY_HAND = ([1, 0, 2], [1])
A_NIGHT = ([4, 2, 0, 3, 1], [0, 2])


class AgainstAllWays(ways.Checks, unittest.TestCase):
    def test_by_hand(self):
        self.assertEqual(share_back(BY_HAND, 1, 1), (1, 1))
        self.assertEqual(share_back(BY_HAND, 1, 0), (0, 1))
        self.assertEqual(share_back(BY_HAND, 0, 0), (1, 1))
        self.assertEqual(asked(BY_HAND), (5, 6))
        self.assertEqual(share_back(([0, 1, 2], [0, 2]), 2, 0), (1, 2))
        self.assertEqual(asked(([0, 1, 2], [0, 2])), (1, 3))

    def test_one_guest(self):
        for lost in ([], [0]):
            self.assertEqual(share_back(([0], lost), 0, 0), (1, 1))
            self.assertEqual(asked(([0], lost)), (0, 1))

    def test_small_nights(self):
        for night in ways.small_nights():
            with self.subTest(night=night):
                self.check_night(night)

    def test_few_lost_among_more(self):
        for night in (([3, 6, 0, 7, 1, 5, 2, 4], [0, 5]), ([8, 0, 7, 1, 6, 2, 5, 3, 4], [8])):
            with self.subTest(night=night):
                self.check_night(night)

    def check_night(self, night):
        parts = Counter()
        average = Fraction(0)
        for part, seats, times in ways.all_askings(night):
            average += part * times
            for guest, seat in enumerate(seats):
                parts[guest, seat] += part
        self.check_told(asked(night), average)
        for guest in night[0]:
            for seat in night[0]:
                self.check_told(share_back(night, guest, seat), parts[guest, seat])


class GreatNights(ways.Prompt, ways.Checks, unittest.TestCase):
    def test_guests_and_seats_come_to_one_whole(self):
        for night in ways.great_nights():
            with self.subTest(night=night):
                rows = [[Fraction(*share_back(night, guest, seat)) for seat in range(40)] for guest in range(40)]
                self.assertEqual([sum(row) for row in rows], [1] * 40)
                self.assertEqual([sum(column) for column in zip(*rows)], [1] * 40)
                for guest in set(range(40)) - set(night[1]):
                    self.assertEqual(rows[guest][guest], 1)
                self.check_told(asked(night), Fraction(*asked(night)))

    def test_nobody_is_asked(self):
        for lost in ([], [39], list(range(20, 40)), list(range(40))):
            self.assertEqual(asked((list(range(40)), lost)), (0, 1))

    def test_first_lost(self):
        night = (list(range(40)), [0])
        self.check_told(asked(night), sum(Fraction(1, free + 1) for free in range(1, 40)))
        self.assertEqual(share_back(night, 0, 0), (1, 1))

    def test_half_lost(self):
        night = (list(range(40)), list(range(20)))
        self.check_told(asked(night), sum(Fraction(20, free + 20) for free in range(1, 21)))
        self.assertEqual(share_back(night, 19, 3), (1, 20))
        self.assertEqual(share_back(night, 19, 20), (0, 1))
        self.assertEqual(share_back(night, 20, 19), (0, 1))
        self.assertEqual(share_back(night, 20, 20), (1, 1))


class Refusals(ways.Checks, unittest.TestCase):
    def test_nights(self):
        for night in ways.wrong_nights():
            self.refused(errors.BadNight, asked, night)
            for guest, seat in ((0, 0), (None, None), (-1, 41)):
                self.refused(errors.BadNight, share_back, night, guest, seat)

    def test_guests_and_seats(self):
        for night in (A_NIGHT, BY_HAND, (list(range(40)), [3, 39])):
            many = len(night[0])
            for wrong in ways.wrong_counted(many - 1):
                for seat in (0, None, many, wrong):
                    self.refused(errors.BadGuest, share_back, night, wrong, seat)
                for guest in range(many):
                    self.refused(errors.BadSeat, share_back, night, guest, wrong)

    def test_bounds_are_met(self):
        self.assertEqual(share_back((list(range(40)), list(range(40))), 39, 39), (1, 40))

    def test_nothing_is_changed_by_a_refusal(self):
        self.refused_unchanged(errors.BadNight, asked, ([2, 0, 1], [2, 1]))
        self.refused_unchanged(errors.BadSeat, share_back, ([2, 0, 1], [1, 2]), 0, [1])


class HandedIn(ways.Checks, unittest.TestCase):
    def test_nothing_is_changed_or_kept(self):
        for night in (BY_HAND, A_NIGHT, (list(range(40)), list(range(0, 40, 3)))):
            self.check_nothing_changed_or_kept(asked, [night])
            self.check_nothing_changed_or_kept(share_back, [night, 0, 0])
            self.check_nothing_changed_or_kept(share_back, [night, 1, 2])


if __name__ == "__main__":
    unittest.main()
