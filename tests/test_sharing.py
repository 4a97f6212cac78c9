"""Promises 1 to 4: shares, against all ways gone through one by one."""

import copy
import unittest
from collections import Counter
from fractions import Fraction
from math import comb, factorial

from lostseat import errors
from lostseat.sharing import free_share, own, seating, share

import ways

BY_HAND = ([1, 0, 2], [1])
A_NIGHT = ([4, 2, 0, 3, 1], [0, 2])


class AgainstAllWays(ways.Checks, unittest.TestCase):
    def test_by_hand(self):
        self.assertEqual(share(BY_HAND, 2, 2), (1, 2))
        self.assertEqual(share(BY_HAND, 0, 0), (2, 3))
        self.assertEqual(free_share(BY_HAND, 2, [1]), (1, 2))
        self.assertEqual(seating(BY_HAND, [2, 0, 1]), (1, 6))
        self.assertEqual(own(BY_HAND), (3, 2))

    def test_one_guest(self):
        for lost in ([], [0]):
            night = ([0], lost)
            self.assertEqual(share(night, 0, 0), (1, 1))
            self.assertEqual(free_share(night, 0, [0]), (1, 1))
            self.assertEqual(free_share(night, 1, []), (1, 1))
            self.assertEqual(free_share(night, 0, []), (0, 1))
            self.assertEqual(free_share(night, 1, [0]), (0, 1))
            self.assertEqual(seating(night, [0]), (1, 1))
            self.assertEqual(own(night), (1, 1))

    def test_small_nights(self):
        for night in ways.small_nights():
            with self.subTest(night=night):
                rows = ways.all_ways(night)
                self.check_share(night, rows)
                self.check_free_share(night, rows)
                self.check_seating(night, rows)
                self.check_own(night, rows)

    def test_few_lost_among_more(self):
        for night in (([3, 6, 0, 7, 1, 5, 2, 4], [0, 5]), ([8, 0, 7, 1, 6, 2, 5, 3, 4], [8]),
                      ([8, 0, 7, 1, 6, 2, 5, 3, 4], [1, 3, 7])):
            with self.subTest(night=night):
                rows = ways.all_ways(night)
                self.check_share(night, rows)
                self.check_free_share(night, rows)
                self.check_own(night, rows)

    def check_share(self, night, rows):
        parts = Counter()
        for part, seats, frees in rows:
            for guest, seat in enumerate(seats):
                parts[guest, seat] += part
        for guest in night[0]:
            for seat in night[0]:
                self.check_told(share(night, guest, seat), parts[guest, seat])

    def check_free_share(self, night, rows):
        parts = Counter()
        for part, seats, frees in rows:
            for turn, free in enumerate(frees):
                parts[turn, tuple(free)] += part
        many = len(night[0])
        for turn in range(many + 1):
            for free in ways.subsets(many):
                self.check_told(free_share(night, turn, free), parts[turn, tuple(free)])

    def check_seating(self, night, rows):
        parts = Counter()
        for part, seats, frees in rows:
            parts[tuple(seats)] += part
        for seats in ways.seatings(len(night[0])):
            self.check_told(seating(night, seats), parts[tuple(seats)])

    def check_own(self, night, rows):
        average = Fraction(0)
        for part, seats, frees in rows:
            average += part * sum(guest == seat for guest, seat in enumerate(seats))
        self.check_told(own(night), average)


class GreatNights(ways.Prompt, unittest.TestCase):
    def test_guests_and_seats_come_to_one_whole(self):
        for night in ways.great_nights():
            with self.subTest(night=night):
                rows = [[Fraction(*share(night, guest, seat)) for seat in range(40)] for guest in range(40)]
                self.assertEqual([sum(row) for row in rows], [1] * 40)
                self.assertEqual([sum(column) for column in zip(*rows)], [1] * 40)
                average = sum(rows[guest][guest] for guest in range(40))
                self.assertEqual(own(night), ways.as_share(average))

    def test_lowest_terms(self):
        for night in ways.great_nights():
            told = [share(night, guest, seat) for guest in (0, 7, 39) for seat in range(40)] + [own(night)]
            for top, bottom in told:
                self.assertEqual((top, bottom), ways.as_share(Fraction(top, bottom)))

    def test_all_lost(self):
        night = (list(range(39, -1, -1)), list(range(40)))
        self.assertEqual({share(night, guest, seat) for guest in range(40) for seat in range(40)}, {(1, 40)})
        self.assertEqual(seating(night, list(range(40))), (1, factorial(40)))
        self.assertEqual(own(night), (1, 1))
        self.assertEqual(free_share(night, 17, list(range(23))), (1, comb(40, 17)))
        self.assertEqual(free_share(night, 40, []), (1, 1))

    def test_first_lost(self):
        night = (list(range(40)), [0])
        self.assertEqual(share(night, 39, 39), (1, 2))
        self.assertEqual(share(night, 39, 0), (1, 2))
        self.assertEqual([share(night, 39, seat) for seat in range(1, 39)], [(0, 1)] * 38)
        self.assertEqual(free_share(night, 39, [39]), (1, 2))
        self.assertEqual(free_share(night, 20, list(range(20, 40))), (1, 21))
        self.assertEqual(free_share(night, 20, [0] + list(range(21, 40))), (1, 21))
        self.assertEqual(free_share(night, 20, [1] + list(range(21, 40))), (0, 1))
        self.assertEqual(seating(night, list(range(40))), (1, 40))

    def test_none_lost(self):
        night = ([guest * 7 % 40 for guest in range(40)], [])
        self.assertEqual(own(night), (40, 1))
        self.assertEqual(seating(night, list(range(40))), (1, 1))
        self.assertEqual(seating(night, list(range(1, 40)) + [0]), (0, 1))
        self.assertEqual([share(night, guest, guest) for guest in range(40)], [(1, 1)] * 40)
        self.assertEqual(share(night, 3, 4), (0, 1))
        for turn in range(41):
            self.assertEqual(free_share(night, turn, sorted(night[0][turn:])), (1, 1))

    def test_half_lost(self):
        # The lost ones come first and scatter over all seats; then 20 of 40 are free, any alike.
        night = (list(range(40)), list(range(20)))
        self.assertEqual(free_share(night, 20, list(range(10, 30))), (1, comb(40, 20)))
        self.assertEqual(free_share(night, 20, list(range(10, 29))), (0, 1))
        self.assertEqual(share(night, 20, 20), (1, 2))
        self.assertEqual(share(night, 0, 39), (1, 40))
        self.assertEqual(share(night, 19, 39), (1, 40))
        turned = [seat + 20 for seat in range(20)] + list(range(20))
        self.assertEqual(seating(night, turned), (1, factorial(40)))


class Refusals(ways.Checks, unittest.TestCase):
    def test_nights(self):
        for night in ways.wrong_nights():
            for call in (lambda: share(night, 0, 0), lambda: share(night, None, None),
                         lambda: free_share(night, 0, [0]), lambda: free_share(night, None, None),
                         lambda: seating(night, [0]), lambda: seating(night, None), lambda: own(night)):
                self.refused(errors.BadNight, call)

    def test_share(self):
        for night in (A_NIGHT, BY_HAND):
            many = len(night[0])
            for guest in ways.wrong_counted(many - 1):
                self.refused(errors.BadGuest, lambda: share(night, guest, 0))
                self.refused(errors.BadGuest, lambda: share(night, guest, None))
                self.refused(errors.BadGuest, lambda: share(night, guest, many))
            for seat in ways.wrong_counted(many - 1):
                self.refused(errors.BadSeat, lambda: share(night, 0, seat))

    def test_free_share(self):
        for night in (A_NIGHT, BY_HAND):
            many = len(night[0])
            for turn in ways.wrong_counted(many):
                self.refused(errors.BadTurn, lambda: free_share(night, turn, [0]))
                self.refused(errors.BadTurn, lambda: free_share(night, turn, None))
                self.refused(errors.BadTurn, lambda: free_share(night, turn, [1, 0]))
            for seats in ways.wrong_risings(many):
                for turn in (0, 1, many - 1, many):
                    self.refused(errors.BadSeats, lambda: free_share(night, turn, seats))
        for seats in ways.last_wrong(40):
            self.refused(errors.BadSeats, free_share, (list(range(40)), [3, 39]), 0, seats)

    def test_seating(self):
        for night in (A_NIGHT, BY_HAND, (list(range(40)), [3, 39])):
            for seats in ways.wrong_seatings(len(night[0])):
                self.refused(errors.BadSeating, lambda: seating(night, seats))

    def test_bounds_are_met(self):
        for night in ((list(range(40)), list(range(40))), (list(range(40)), [])):
            share(night, 39, 39)
            free_share(night, 40, [])
            seating(night, list(range(40)))
            own(night)


class HandedIn(unittest.TestCase):
    CALLS = ((share, [1, 3]), (share, [0, 0]), (free_share, [2, [0, 1, 3]]), (free_share, [2, [0]]),
             (seating, [[0, 1, 2, 3, 4]]), (seating, [[1, 0, 2, 3, 4]]), (own, []))

    def test_nothing_is_changed(self):
        for call, more in self.CALLS:
            handed = [copy.deepcopy(A_NIGHT)] + copy.deepcopy(more)
            call(*handed)
            self.assertEqual(handed, [A_NIGHT] + more)

    def test_nothing_is_changed_by_a_refusal(self):
        for call, error, handed in ((share, errors.BadSeat, [A_NIGHT, 1, 5]),
                                    (free_share, errors.BadSeats, [A_NIGHT, 1, [2, 1]]),
                                    (seating, errors.BadSeating, [A_NIGHT, [4, 4, 2, 1, 0]]),
                                    (own, errors.BadNight, [([2, 0, 1], [2, 1])])):
            before = copy.deepcopy(handed)
            with self.assertRaises(error):
                call(*handed)
            self.assertEqual(handed, before)

    def test_nothing_is_kept(self):
        for call, more in self.CALLS:
            handed = [copy.deepcopy(A_NIGHT)] + copy.deepcopy(more)
            told = call(*handed)
            before = copy.deepcopy(told)
            handed[0][0].reverse()
            handed[0][1].clear()
            for value in handed[1:]:
                if isinstance(value, list):
                    value.clear()
            self.assertEqual(told, before)
            self.assertEqual(call(copy.deepcopy(A_NIGHT), *copy.deepcopy(more)), before)

    def test_a_night_changed_behind_a_call_is_another_night(self):
        order, lost = [0, 1, 2], [0]
        self.assertEqual(own((order, lost)), (3, 2))
        lost.clear()
        self.assertEqual(own((order, lost)), (3, 1))
        lost.append(2)
        self.assertEqual(own((order, lost)), (3, 1))
        order.reverse()
        self.assertEqual(share((order, lost), 0, 0), (1, 2))


if __name__ == "__main__":
    unittest.main()
