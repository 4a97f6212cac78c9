"""Promises 1 and 9: doors, turn by turn, against a plain state kept here."""

import copy
import unittest

from lostseat import errors
from lostseat.doors import Door
from lostseat.sharing import seating

import ways

BY_HAND = ([1, 0, 2], [1])
A_NIGHT = ([4, 2, 0, 3, 1], [0, 2])
METHODS = ("come", "next_guest", "open_seats", "taken", "so_far")


class Plain:
    """What a door must tell."""

    def __init__(self, night):
        self.order, self.lost = copy.deepcopy(night)
        self.seats = {}
        self.bottom = 1

    def guest(self):
        return self.order[len(self.seats)] if len(self.seats) < len(self.order) else None

    def choices(self):
        free = sorted(set(self.order) - set(self.seats.values()))
        return [self.guest()] if self.guest() in free and self.guest() not in self.lost else free

    def come(self, seat):
        self.bottom *= len(self.choices())
        self.seats[self.guest()] = seat

    def told(self):
        """As a door tells it: the next guest, the seats to choose, those taken, the share."""
        taken = [self.seats.get(guest) for guest in range(len(self.order))]
        return self.guest(), self.choices(), taken, (1, self.bottom)


def told(door):
    return door.next_guest(), door.open_seats(), door.taken(), door.so_far()


class DoorCase(ways.Checks, unittest.TestCase):
    def check_same(self, door, plain):
        self.assertEqual(told(door), plain.told())

    def come(self, door, plain, seat):
        guest = plain.guest()
        plain.come(seat)
        self.assertEqual(door.come(seat), guest)
        self.check_same(door, plain)

    def check_refused(self, door, error, seat):
        before = told(door)
        self.refused(error, door.come, seat)
        self.assertEqual(told(door), before)


class TurnByTurn(DoorCase):
    def test_by_hand(self):
        door = Door(BY_HAND)
        self.assertEqual(told(door), (1, [0, 1, 2], [None, None, None], (1, 1)))
        self.assertEqual(door.come(0), 1)
        self.assertEqual(told(door), (0, [1, 2], [None, 0, None], (1, 3)))
        self.assertEqual(door.come(2), 0)
        self.assertEqual(told(door), (2, [1], [2, 0, None], (1, 6)))
        self.assertEqual(door.come(1), 2)
        self.assertEqual(told(door), (None, [], [2, 0, 1], (1, 6)))

    def test_kinds(self):
        door = Door(BY_HAND)
        self.assertIs(type(door.open_seats()), list)
        self.assertIs(type(door.taken()), list)
        self.assertIs(type(door.so_far()), tuple)
        self.assertIs(type(door.come(2)), int)
        for name in METHODS:
            self.assertIn(name, vars(Door))

    def test_all_ways_of_small_nights(self):
        for night in ways.small_nights():
            with self.subTest(night=night):
                for part, seats, frees in ways.all_ways(night):
                    door = self.come_all(night, seats)
                    self.check_told(door.so_far(), part)

    def test_great_nights(self):
        for night in ways.great_nights():
            with self.subTest(night=night):
                for seats in ways.great_comers(night):
                    door = self.come_all(night, seats)
                    self.assertEqual(door.so_far(), seating(night, seats))

    def come_all(self, night, seats):
        door, plain = Door(night), Plain(night)
        self.check_same(door, plain)
        for guest in night[0]:
            self.come(door, plain, seats[guest])
        self.assertEqual(told(door)[:3], (None, [], seats))
        return door


class Refusals(DoorCase):
    def test_nights(self):
        for night in ways.wrong_nights():
            self.refused(errors.BadNight, Door, night)
        self.refused_unchanged(errors.BadNight, Door, ([2, 0, 1], [2, 1]))

    def test_bounds_are_met(self):
        door = Door((list(range(40)), list(range(40))))
        self.assertEqual(door.come(39), 0)
        self.assertEqual(door.so_far(), (1, 40))

    def test_each_seat_of_small_nights(self):
        for night in ways.small_nights():
            for picks in ([0] * 6, [-1] * 6, range(6)):
                seats = ways.come_along(night, picks)
                self.check_each_turn(night, seats, range(-len(seats) - 1, len(seats) + 3))

    def test_each_seat_of_great_nights(self):
        for night in ways.great_nights():
            self.check_each_turn(night, ways.come_along(night, range(40)), (*range(0, 40, 6), 39, 40, -1))

    def check_each_turn(self, night, seats, tried):
        door, plain = Door(night), Plain(night)
        for guest in night[0]:
            for seat in tried:
                if seat not in plain.choices():
                    self.check_refused(door, errors.BadSeat, seat)
            self.come(door, plain, seats[guest])
        for seat in tried:
            self.check_refused(door, errors.AllCame, seat)

    def test_no_seats(self):
        for night in (BY_HAND, A_NIGHT, ([0], []), ([1, 0], [0, 1])):
            door, plain = Door(night), Plain(night)
            many = len(night[0])
            for guest in night[0]:
                for wrong in ways.wrong_counted(many - 1):
                    self.check_refused(door, errors.BadSeat, wrong)
                self.come(door, plain, plain.choices()[-1])
            for wrong in (*ways.wrong_counted(many - 1), *range(many)):
                self.check_refused(door, errors.AllCame, wrong)
            self.check_same(door, plain)

    def test_a_list_as_a_seat_is_not_changed(self):
        seat = [0]
        self.check_refused(Door(BY_HAND), errors.BadSeat, seat)
        self.assertEqual(seat, [0])


class HandedInAndTold(DoorCase):
    def test_two_doors_of_one_night(self):
        night = copy.deepcopy(A_NIGHT)
        doors, plains = (Door(night), Door(night)), (Plain(night), Plain(night))
        for turn in range(5):
            for at in (0, -1):
                self.come(doors[at], plains[at], plains[at].choices()[at])
                self.check_same(doors[0], plains[0])
                self.check_same(doors[1], plains[1])
        self.assertNotEqual(doors[0].taken(), doors[1].taken())
        self.assertEqual(night, A_NIGHT)

    def test_one_door_behind_another_that_is_done(self):
        night = copy.deepcopy(A_NIGHT)
        door, plain = Door(night), Plain(night)
        while plain.guest() is not None:
            self.come(door, plain, plain.choices()[0])
        self.check_same(Door(night), Plain(night))
        self.check_same(door, plain)

    def test_the_night_changed_behind_the_making(self):
        for change in (lambda order, lost: (order.reverse(), lost.clear()), lambda order, lost: lost.append(4),
                       lambda order, lost: (order.clear(), lost.clear()), lambda order, lost: order.append(5)):
            for turns in range(6):
                night = copy.deepcopy(A_NIGHT)
                door, plain = Door(night), Plain(night)
                for turn in range(turns):
                    self.come(door, plain, plain.choices()[-1])
                change(*night)
                self.check_same(door, plain)
                while plain.guest() is not None:
                    self.come(door, plain, plain.choices()[-1])

    def test_told_lists_changed_behind_it(self):
        door, plain = Door(A_NIGHT), Plain(A_NIGHT)
        for turn in range(6):
            door.open_seats().clear()
            door.open_seats().append(0)
            door.taken().reverse()
            door.taken().clear()
            door.taken()[0] = 3
            kept = door.open_seats(), door.taken()
            before = copy.deepcopy(kept)
            self.check_same(door, plain)
            if turn < 5:
                self.come(door, plain, plain.choices()[0])
            self.assertEqual(kept, before)

    def test_asking_changes_nothing(self):
        door, plain = Door(A_NIGHT), Plain(A_NIGHT)
        for turn in range(5):
            for again in range(3):
                self.check_same(door, plain)
            self.come(door, plain, plain.choices()[-1])
        self.assertEqual(A_NIGHT, ([4, 2, 0, 3, 1], [0, 2]))


if __name__ == "__main__":
    unittest.main()
