"""Promises 1 and 5 to 7: seatings judged, who must have lost, small nights counted and numbered."""

import copy
import unittest

from lostseat import errors
from lostseat.answers import Bars, Comes
from lostseat.seatings import how_many, judged, must, number_of, seating_by
from lostseat.sharing import seating

import ways

BY_HAND = ([1, 0, 2], [1])
A_NIGHT = ([4, 2, 0, 3, 1], [0, 2])
GREAT_NIGHT = (list(range(40)), [3, 39])


def can_come(night, seats):
    return ways.walked(night, seats)[1] is None


def ordered_seatings(night):
    """All seatings that some way comes to, in order of lists."""
    return sorted(row[1] for row in ways.all_ways(night))


class Judged(ways.Checks, unittest.TestCase):
    def test_by_hand(self):
        comes = judged(BY_HAND, [0, 2, 1])
        self.assertIs(type(comes), Comes)
        self.assertEqual(vars(comes), {"choices": [3, 1, 1]})
        bars = judged(BY_HAND, [2, 1, 0])
        self.assertIs(type(bars), Bars)
        self.assertEqual(vars(bars), {"turn": 1})
        self.assertEqual(judged(([0], []), [0]).choices, [1])
        self.assertEqual(judged(([0, 1, 2, 3], []), [1, 0, 3, 2]).turn, 0)

    def test_small_nights(self):
        for night in ways.small_nights():
            with self.subTest(night=night):
                met = {tuple(row[1]) for row in ways.all_ways(night)}
                for seats in ways.seatings(len(night[0])):
                    self.assertEqual(self.check_judged(night, seats), tuple(seats) in met)

    def test_forty_guests(self):
        for night in ways.great_nights():
            with self.subTest(night=night):
                for seats in ways.great_comers(night):
                    self.assertTrue(self.check_judged(night, seats))
                for seats in ways.great_seatings():
                    self.check_judged(night, seats)

    def check_judged(self, night, seats):
        """Whether it is a Comes; that it, or a Bars, is just as it must be."""
        choices, barring = ways.walked(night, seats)
        told = judged(night, seats)
        if barring is None:
            self.assertIs(type(told), Comes)
            self.assertEqual(vars(told), {"choices": choices})
            self.check_share(night, seats, told.choices)
        else:
            self.assertIs(type(told), Bars)
            self.assertEqual(vars(told), {"turn": barring})
            self.assertEqual(seating(night, seats), (0, 1))
        self.assertIs(told.shows(night, seats), True)
        return barring is None

    def check_share(self, night, seats, choices):
        bottom = 1
        for choice in choices:
            bottom *= choice
        self.assertEqual(seating(night, seats), (1, bottom))

    def test_the_field_is_new(self):
        first, other = judged(BY_HAND, [0, 2, 1]), judged(BY_HAND, [0, 2, 1])
        first.choices.clear()
        self.assertEqual(other.choices, [3, 1, 1])
        self.assertEqual(judged(BY_HAND, [0, 2, 1]).choices, [3, 1, 1])

    def test_nothing_is_changed_or_kept(self):
        for seats in ([0, 2, 1], [2, 1, 0]):
            self.check_nothing_changed_or_kept(lambda *handed: vars(judged(*handed)), [BY_HAND, seats])
        for seats in ways.great_seatings():
            self.check_nothing_changed_or_kept(lambda *handed: vars(judged(*handed)), [GREAT_NIGHT, seats])

    def test_refusals(self):
        for night in ways.wrong_nights():
            for seats in ([0], None, [0, 1, 2]):
                self.refused(errors.BadNight, judged, night, seats)
        for night in (BY_HAND, A_NIGHT, GREAT_NIGHT):
            for seats in ways.wrong_seatings(len(night[0])):
                self.refused(errors.BadSeating, judged, night, seats)
        self.refused_unchanged(errors.BadSeating, judged, BY_HAND, [0, 2, 2])


class Must(ways.Checks, unittest.TestCase):
    def test_by_hand(self):
        self.assertEqual(must([1, 0, 2], [2, 0, 1]), [1])
        self.assertEqual(must([0], [0]), [])
        self.assertEqual(must([0, 1], [1, 0]), [0])
        self.assertEqual(must([1, 0], [1, 0]), [1])
        self.assertEqual(must([3, 1, 2, 0], [1, 0, 3, 2]), [1, 3])

    def test_every_order_and_seating(self):
        for many in range(1, 6):
            for order in ways.seatings(many):
                for seats in ways.seatings(many):
                    self.check_must(order, seats)

    def test_every_night(self):
        for many in range(1, 5):
            for order in ways.seatings(many):
                for seats in ways.seatings(many):
                    due = set(must(order, seats))
                    for lost in ways.subsets(many):
                        self.assertEqual(can_come((order, lost), seats), due <= set(lost))

    def test_forty_guests(self):
        for order in ways.great_seatings():
            for seats in ways.great_seatings():
                self.check_must(order, seats)

    def test_those_of_a_night_have_lost(self):
        for night in ways.great_nights():
            for seats in ways.great_comers(night):
                self.assertLessEqual(set(must(night[0], seats)), set(night[1]))

    def check_must(self, order, seats):
        told = must(order, seats)
        self.assertIs(type(told), list)
        self.assertEqual(told, sorted(set(told)))
        self.assertTrue(can_come((order, told), seats))
        for guest in told:
            self.assertFalse(can_come((order, [other for other in sorted(order) if other != guest]), seats))

    def test_nothing_is_changed_or_kept(self):
        for order, seats in (([1, 0, 2], [2, 0, 1]), ([3, 1, 2, 0], [1, 0, 3, 2]), ([0], [0])):
            self.check_nothing_changed_or_kept(must, [order, seats])
        same = [2, 0, 1]
        self.assertEqual(must(same, same), must([2, 0, 1], [2, 0, 1]))
        self.assertEqual(same, [2, 0, 1])

    def test_refusals(self):
        for order in ways.wrong_orders():
            for seats in ([0], None, [0, 1, 2], order):
                self.refused(errors.BadOrder, must, order, seats)
        self.refused(errors.BadOrder, must, ([1, 0, 2], [1]), [0, 1, 2])
        for order in ([1, 0, 2], [4, 2, 0, 3, 1], list(range(39, -1, -1))):
            for seats in ways.wrong_seatings(len(order)):
                self.refused(errors.BadSeating, must, order, seats)
        self.refused_unchanged(errors.BadOrder, must, [1, 0, 0], [2, 2, 1])
        self.refused_unchanged(errors.BadSeating, must, [1, 0, 2], [2, 2, 1])


class Numbered(ways.Checks, unittest.TestCase):
    def test_by_hand(self):
        self.assertEqual(how_many(BY_HAND), 4)
        self.assertEqual(seating_by(BY_HAND, 0), [0, 1, 2])
        self.assertEqual(seating_by(BY_HAND, 1), [0, 2, 1])
        self.assertEqual(seating_by(BY_HAND, 2), [1, 0, 2])
        self.assertEqual(seating_by(BY_HAND, 3), [2, 0, 1])
        self.assertEqual(number_of(BY_HAND, [2, 0, 1]), 3)
        self.assertEqual(how_many(([0], [])), 1)
        self.assertEqual(seating_by(([0], []), 0), [0])
        self.assertEqual(how_many((list(range(6)), list(range(6)))), 720)
        self.assertEqual(how_many((list(range(6)), [])), 1)
        self.assertEqual(how_many((list(range(6)), [0])), 32)

    def test_small_nights(self):
        for night in ways.small_nights():
            with self.subTest(night=night):
                rows = ordered_seatings(night)
                self.assertIs(type(how_many(night)), int)
                self.assertEqual(how_many(night), len(rows))
                self.check_numbers(night, rows)
                self.check_others(night, rows)

    def check_numbers(self, night, rows):
        for number in {*range(0, len(rows), 1 + len(rows) // 60), len(rows) - 1}:
            told = seating_by(night, number)
            self.assertIs(type(told), list)
            self.assertEqual(told, rows[number])
            self.assertEqual(number_of(night, rows[number]), number)
            self.assertIs(type(number_of(night, rows[number])), int)

    def check_others(self, night, rows):
        for number in (-1, -len(rows), len(rows), len(rows) + 1, 10 ** 6000, -10 ** 6000):
            self.refused(errors.BadNumber, seating_by, night, number)
        others = [seats for seats in ways.seatings(len(night[0])) if seats not in rows]
        for seats in others[::1 + len(others) // 60]:
            self.refused(errors.NotSo, number_of, night, seats)

    def test_every_number(self):
        for night in (([5, 3, 1, 4, 0, 2], [1, 3, 4]), ([0, 1, 2, 3, 4, 5], [0, 1, 2, 3, 4, 5])):
            rows = ordered_seatings(night)
            self.assertEqual([seating_by(night, number) for number in range(len(rows))], rows)
            self.assertEqual([number_of(night, seats) for seats in rows], list(range(len(rows))))

    def test_what_is_told_is_new(self):
        seating_by(BY_HAND, 1).clear()
        self.assertEqual(seating_by(BY_HAND, 1), [0, 2, 1])
        for call, handed in ((how_many, [BY_HAND]), (seating_by, [BY_HAND, 3]), (number_of, [BY_HAND, [2, 0, 1]]),
                             (how_many, [A_NIGHT]), (seating_by, [A_NIGHT, 7]), (number_of, [A_NIGHT, [0, 1, 2, 3, 4]])):
            self.check_nothing_changed_or_kept(call, handed)

    def test_bad_nights(self):
        for night in ways.wrong_nights():
            self.refused(errors.BadNight, how_many, night)
            for more in (0, None, [0], [0, 1, 2]):
                self.refused(errors.BadNight, seating_by, night, more)
                self.refused(errors.BadNight, number_of, night, more)

    def test_too_many(self):
        for many in (7, 8, 20, 40):
            for lost in ([], [0], list(range(many))):
                night = (list(range(many)), lost)
                self.refused(errors.TooMany, how_many, night)
                for more in (0, None, True, -1, [0], list(range(many))):
                    self.refused(errors.TooMany, seating_by, night, more)
                    self.refused(errors.TooMany, number_of, night, more)

    def test_just_within(self):
        night = (list(range(6)), list(range(6)))
        self.assertEqual(seating_by(night, 719), [5, 4, 3, 2, 1, 0])
        self.assertEqual(number_of(night, [5, 4, 3, 2, 1, 0]), 719)

    def test_bad_numbers(self):
        for night in (BY_HAND, ([0], []), ([0, 1, 2, 3, 4, 5], [0])):
            for number in (*ways.wrong_counted(how_many(night) - 1), how_many(night)):
                self.refused(errors.BadNumber, seating_by, night, number)

    def test_bad_seatings(self):
        for night in (BY_HAND, A_NIGHT, ([5, 3, 1, 4, 0, 2], [1])):
            for seats in ways.wrong_seatings(len(night[0])):
                self.refused(errors.BadSeating, number_of, night, seats)
        # Ahead of the place where it's no seating it can't come either.
        self.refused(errors.BadSeating, number_of, BY_HAND, [2, 1, 1])
        self.refused(errors.NotSo, number_of, BY_HAND, [2, 1, 0])

    def test_nothing_is_changed_by_a_refusal(self):
        self.refused_unchanged(errors.NotSo, number_of, copy.deepcopy(BY_HAND), [2, 1, 0])
        self.refused_unchanged(errors.BadSeating, number_of, copy.deepcopy(BY_HAND), [2, 0, 0])
        self.refused_unchanged(errors.BadNumber, seating_by, copy.deepcopy(BY_HAND), 4)
        self.refused_unchanged(errors.TooMany, how_many, (list(range(7)), [3]))


if __name__ == "__main__":
    unittest.main()
