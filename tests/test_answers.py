"""Promise 5, as far as the answers tell it: Comes, Bars, and what they show."""

import copy
import unittest
from fractions import Fraction

from lostseat.answers import Answer, Bars, Comes
from lostseat.sharing import seating

import ways

A_NIGHT = ([1, 0, 2], [1])
GREAT = 10 ** 400


class Due(unittest.TestCase):
    def test_by_hand(self):
        self.assertIs(Comes([3, 2, 1]).shows(A_NIGHT, [2, 0, 1]), True)
        self.assertIs(Comes([3, 1, 1]).shows(A_NIGHT, [0, 1, 2]), True)
        self.assertIs(Comes([3, 1, 1]).shows(A_NIGHT, [0, 2, 1]), True)
        self.assertIs(Bars(1).shows(A_NIGHT, [2, 1, 0]), True)
        self.assertIs(Bars(0).shows(([1, 0], []), [1, 0]), True)
        self.assertIs(Comes([1]).shows(([0], []), [0]), True)
        self.assertIs(Comes([1]).shows(([0], [0]), [0]), True)

    def test_small_nights(self):
        for night in ways.small_nights():
            with self.subTest(night=night):
                can_come = {tuple(row[1]) for row in ways.all_ways(night)}
                for seats in ways.seatings(len(night[0])):
                    choices, barring = ways.walked(night, seats)
                    self.assertEqual(barring is None, tuple(seats) in can_come)
                    if barring is None:
                        self.check_comes(night, seats, choices)
                    else:
                        self.check_bars(night, seats, barring)

    def check_comes(self, night, seats, choices):
        self.assertIs(Comes(choices).shows(night, seats), True)
        product = Fraction(1)
        for choice in choices:
            product /= choice
        self.assertEqual(seating(night, seats), ways.as_share(product))
        for turn in range(len(choices)):
            for step in (-1, 1):
                wrong = list(choices)
                wrong[turn] += step
                self.assertIs(Comes(wrong).shows(night, seats), False)
        for wrong in (choices[:-1], choices[1:], choices + [1], choices + [0], [1] + choices, []):
            self.assertIs(Comes(wrong).shows(night, seats), False)
        for turn in range(-2, len(choices) + 2):
            self.assertIs(Bars(turn).shows(night, seats), False)

    def check_bars(self, night, seats, barring):
        self.assertEqual(seating(night, seats), (0, 1))
        for turn in range(-len(seats) - 1, len(seats) + 2):
            self.assertIs(Bars(turn).shows(night, seats), turn == barring)
        many = len(seats)
        for wrong in ([], [1] * many, list(range(many, 0, -1)), [1] * barring,
                      ways.walked((night[0], sorted(night[0])), seats)[0]):
            self.assertIs(Comes(wrong).shows(night, seats), False)

    def test_forty_guests(self):
        everyone = list(range(40))
        night = (everyone[::-1], everyone)
        self.assertIs(Comes(range(40, 0, -1)).shows(night, everyone), True)
        self.assertIs(Comes([1] * 40).shows((everyone, []), everyone), True)
        turned = everyone[:-2] + [39, 38]
        self.assertIs(Bars(38).shows((everyone, []), turned), True)
        self.assertIs(Bars(39).shows((everyone, []), turned), False)
        self.assertIs(Comes([1] * 38 + [2, 1]).shows((everyone, [38]), turned), True)


class NotDue(unittest.TestCase):
    def test_great_numbers(self):
        for number in (GREAT, -GREAT, 10 ** 6000, -1, -3, 0, 2 ** 64 + 3):
            self.assertIs(Comes([number, 2, 1]).shows(A_NIGHT, [2, 0, 1]), False)
            self.assertIs(Comes([number]).shows(A_NIGHT, [2, 0, 1]), False)
            self.assertIs(Bars(number).shows(A_NIGHT, [2, 1, 0]), False)
            self.assertIs(Bars(number).shows(A_NIGHT, [2, 0, 1]), False)

    def test_long_lists(self):
        self.assertIs(Comes([3, 2, 1] * 10000).shows(A_NIGHT, [2, 0, 1]), False)
        self.assertIs(Comes([3, 2, 1] + [1] * 100000).shows(A_NIGHT, [2, 0, 1]), False)

    def test_the_same_multiplied(self):
        self.assertIs(Comes([6, 1, 1]).shows(A_NIGHT, [2, 0, 1]), False)
        self.assertIs(Comes([2, 3, 1]).shows(A_NIGHT, [2, 0, 1]), False)
        self.assertIs(Comes([-3, -2, 1]).shows(A_NIGHT, [2, 0, 1]), False)

    def test_a_later_turn_that_bars_too(self):
        night, seats = ([0, 1, 2, 3], []), [1, 0, 3, 2]
        self.assertEqual([Bars(turn).shows(night, seats) for turn in range(4)], [True, False, False, False])

    def test_truths_are_no_numbers(self):
        self.assertIs(Comes([3, 2, True]).shows(A_NIGHT, [2, 0, 1]), False)
        self.assertIs(Bars(True).shows(A_NIGHT, [2, 1, 0]), False)
        self.assertIs(Bars(False).shows(([1, 0], []), [1, 0]), False)
        self.assertIs(Bars(None).shows(A_NIGHT, [2, 0, 1]), False)


class Fields(unittest.TestCase):
    def test_classes(self):
        for told in (Comes, Bars):
            self.assertEqual(told.__bases__, (Answer,))
            self.assertIn("shows", vars(told))
        self.assertEqual(Answer.__bases__, (object,))

    def test_fields(self):
        self.assertEqual(vars(Comes([3, 2, 1])), {"choices": [3, 2, 1]})
        self.assertEqual(vars(Comes([])), {"choices": []})
        self.assertEqual(vars(Bars(-7)), {"turn": -7})
        self.assertIs(type(Comes([3]).choices), list)

    def test_fields_as_they_stand_then(self):
        comes = Comes([3, 2, 1])
        comes.choices[1] = 1
        self.assertIs(comes.shows(A_NIGHT, [2, 0, 1]), False)
        self.assertIs(comes.shows(A_NIGHT, [0, 1, 2]), True)
        comes.choices.append(1)
        self.assertIs(comes.shows(A_NIGHT, [0, 1, 2]), False)
        comes.choices = [3, 2, 1]
        self.assertIs(comes.shows(A_NIGHT, [2, 0, 1]), True)
        for wrong in (3, None, (3, 2, 1)):
            comes.choices = wrong
            self.assertIs(comes.shows(A_NIGHT, [2, 0, 1]), False)
        bars = Bars(0)
        self.assertIs(bars.shows(A_NIGHT, [2, 1, 0]), False)
        bars.turn = 1
        self.assertIs(bars.shows(A_NIGHT, [2, 1, 0]), True)

    def test_lists_are_copied(self):
        choices = [3, 2, 1]
        comes, other = Comes(choices), Comes(choices)
        choices[0] = 7
        choices.append(1)
        self.assertEqual(comes.choices, [3, 2, 1])
        self.assertIs(comes.shows(A_NIGHT, [2, 0, 1]), True)
        comes.choices.clear()
        self.assertEqual(choices, [7, 2, 1, 1])
        self.assertEqual(other.choices, [3, 2, 1])

    def test_nothing_is_changed(self):
        for answer, seats in ((Comes([3, 2, 1]), [2, 0, 1]), (Comes([3]), [2, 1, 0]), (Bars(1), [2, 1, 0]),
                              (Bars(5), [2, 0, 1])):
            handed = copy.deepcopy([A_NIGHT, seats])
            fields = copy.deepcopy(vars(answer))
            first = answer.shows(*handed)
            self.assertEqual(handed, [A_NIGHT, seats])
            self.assertEqual(vars(answer), fields)
            self.assertIs(answer.shows(*handed), first)


if __name__ == "__main__":
    unittest.main()
