"""Promises 1 and 4: told guests on told seats together, against all ways gone through one by one."""

import itertools
import unittest
from collections import Counter
from fractions import Fraction
from math import factorial

from lostseat import errors
from lostseat.joint import together
from lostseat.sharing import seating, share

import ways

BY_HAND = ([1, 0, 2], [1])
A_NIGHT = ([4, 2, 0, 3, 1], [0, 2])
GREAT_NIGHT = ([guest * 7 % 40 for guest in range(40)], list(range(0, 40, 3)))


def parts_of_pairs(rows):
    """The part of the whole of each list of pairs that some way meets."""
    parts = Counter()
    for part, seats, *more in rows:
        pairs = list(enumerate(seats))
        for length in range(len(pairs) + 1):
            for some in itertools.combinations(pairs, length):
                parts[some] += part
    return parts


class AgainstAllWays(ways.Checks, unittest.TestCase):
    def test_by_hand(self):
        self.assertEqual(together(BY_HAND, [(0, 0), (2, 1)]), (1, 3))
        self.assertEqual(together(BY_HAND, []), (1, 1))
        self.assertEqual(together(BY_HAND, [(0, 1), (1, 1)]), (0, 1))
        self.assertEqual(together(BY_HAND, [(0, 2), (1, 0), (2, 1)]), (1, 6))
        self.assertEqual(together(BY_HAND, [(2, 2)]), (1, 2))

    def test_one_guest(self):
        for lost in ([], [0]):
            self.check_told(together(([0], lost), []), 1)
            self.check_told(together(([0], lost), [(0, 0)]), 1)

    def test_every_list_of_pairs_of_small_nights(self):
        for night in ways.small_nights():
            if len(night[0]) <= 5:
                with self.subTest(night=night):
                    self.check_every_list(night)

    def test_every_list_of_pairs_of_six_guests(self):
        for night in (([0, 1, 2, 3, 4, 5], [0]), ([5, 3, 1, 4, 0, 2], [1, 3, 4])):
            with self.subTest(night=night):
                self.check_every_list(night)

    def test_unlike_seats_of_six_guests(self):
        for night in ways.small_nights():
            if len(night[0]) == 6:
                with self.subTest(night=night):
                    self.check_unlike_seats(night, range(7))

    def test_few_lost_among_more(self):
        for night in (([3, 6, 0, 7, 1, 5, 2, 4], [0, 5]), ([7, 0, 6, 1, 5, 2, 4, 3], [7])):
            with self.subTest(night=night):
                self.check_unlike_seats(night, [0, 1, 2])
                for pairs, part in parts_of_pairs(ways.all_ways(night)).items():
                    self.check_told(together(night, list(pairs)), part)

    def check_every_list(self, night):
        parts = parts_of_pairs(ways.all_ways(night))
        for pairs in ways.pair_lists(len(night[0])):
            self.check_told(together(night, pairs), parts[tuple(pairs)])

    def check_unlike_seats(self, night, lengths):
        parts = parts_of_pairs(ways.all_ways(night))
        for length in lengths:
            for guests in itertools.combinations(range(len(night[0])), length):
                for seats in itertools.permutations(range(len(night[0])), length):
                    pairs = list(zip(guests, seats))
                    self.check_told(together(night, pairs), parts[tuple(pairs)])


class GreatNights(ways.Prompt, ways.Checks, unittest.TestCase):
    def test_one_pair_is_a_share(self):
        for night in ways.great_nights():
            with self.subTest(night=night):
                for guest in range(0, 40, 3):
                    for seat in {*range(1, 40, 5), guest}:
                        self.assertEqual(together(night, [(guest, seat)]), share(night, guest, seat))

    def test_all_guests_are_a_seating(self):
        for night in ways.great_nights():
            with self.subTest(night=night):
                for seats in [*ways.great_comers(night), *ways.great_seatings()]:
                    self.assertEqual(together(night, list(enumerate(seats))), seating(night, seats))

    def test_one_more_on_each_seat(self):
        for night in ways.great_nights():
            for seats in ways.great_comers(night):
                for told in (range(0, 40, 2), range(30), range(10, 40), [5, 20, 39], range(1, 40), []):
                    self.check_one_more(night, {guest: seats[guest] for guest in told})

    def check_one_more(self, night, seat_of):
        without = Fraction(*together(night, sorted(seat_of.items())))
        self.assertGreater(without, 0)
        for guest in sorted(set(range(40)) - set(seat_of))[::13]:
            parts = [together(night, sorted({**seat_of, guest: seat}.items())) for seat in range(40)]
            for told in parts:
                self.check_told(told, Fraction(*told))
            self.assertEqual(sum(Fraction(*told) for told in parts), without)

    def test_all_lost(self):
        night = (list(range(39, -1, -1)), list(range(40)))
        for length in range(41):
            pairs = [(guest, 39 - guest) for guest in range(length)]
            self.assertEqual(together(night, pairs), (1, factorial(40) // factorial(40 - length)))

    def test_none_lost(self):
        night = (list(range(40)), [])
        for length in range(41):
            pairs = [(guest, guest) for guest in range(length)]
            self.assertEqual(together(night, pairs), (1, 1))
        self.assertEqual(together(night, pairs[:-2] + [(38, 39)]), (0, 1))

    def test_first_lost(self):
        night = (list(range(40)), [0])
        self.assertEqual(together(night, [(0, 39), (39, 0)]), (1, 40))
        self.assertEqual(together(night, [(0, 0), (39, 39)]), (1, 40))
        self.assertEqual(together(night, [(38, 38), (39, 39)]), (1, 3))
        self.assertEqual(together(night, [(0, 20), (20, 39), (39, 0)]), (1, 800))
        self.assertEqual(together(night, [(1, 1), (20, 10), (30, 30)]), (0, 1))

    def test_a_seat_told_twice(self):
        for night in ways.great_nights():
            seats = ways.come_along(night, range(40))
            pairs = list(enumerate(seats))
            self.assertEqual(together(night, pairs[:-1] + [(39, seats[0])]), (0, 1))
            self.assertEqual(together(night, [(0, 39), (39, 39)]), (0, 1))
            self.assertEqual(together(night, [(guest, 7) for guest in range(40)]), (0, 1))


class Refusals(ways.Checks, unittest.TestCase):
    def test_nights(self):
        for night in ways.wrong_nights():
            self.refused(errors.BadNight, together, night, [])
            self.refused(errors.BadNight, together, night, None)
            self.refused(errors.BadNight, together, night, [(1, 0), (0, 1)])

    def test_pairs(self):
        for night in (BY_HAND, A_NIGHT, GREAT_NIGHT):
            for pairs in ways.wrong_pairs(len(night[0])):
                self.refused(errors.BadPairs, together, night, pairs)

    def test_a_seat_twice_is_no_excuse(self):
        self.refused(errors.BadPairs, together, BY_HAND, [(0, 1), (1, 1), (2, 3)])
        self.refused(errors.BadPairs, together, BY_HAND, [(0, 1), (1, 1), (1, 1)])

    def test_bounds_are_met(self):
        night = (list(range(40)), list(range(40)))
        self.assertEqual(together(night, [(39, 39)]), (1, 40))
        self.assertEqual(together(night, [(0, 39), (39, 0)]), (1, 1560))

    def test_nothing_is_changed_by_a_refusal(self):
        self.refused_unchanged(errors.BadPairs, together, A_NIGHT, [(1, 1), (0, 0)])
        self.refused_unchanged(errors.BadNight, together, ([2, 0, 1], [2, 1]), [(1, 1), (0, 0)])


class HandedIn(ways.Checks, unittest.TestCase):
    def test_nothing_is_changed_or_kept(self):
        for pairs in ([], [(0, 2)], [(0, 0), (1, 4), (3, 3)], [(0, 1), (4, 1)], list(zip(range(5), range(5)))):
            self.check_nothing_changed_or_kept(together, [A_NIGHT, pairs])
        for pairs in ([], [(39, 0)], list(zip(range(40), range(40)))):
            self.check_nothing_changed_or_kept(together, [GREAT_NIGHT, pairs])


if __name__ == "__main__":
    unittest.main()
