"""Shares of guests on seats, of sets of free seats, and of whole seatings.

Nobody ahead of a turn tells the seats of the lost ones and of those still to
come apart: no one who has come had a claim to one of them. Each other seat is
taken, for its guest has come and sat down on it, if nobody else did. So of
these alike seats each set of as many as are free is free with the same share,
and no way has to be gone through.
"""

from lostseat.errors import BadSeats, BadTurn
from lostseat.nights import (
    check_guest_and_seat, check_night, check_seating, is_counted, is_rising, lowest, summed, walk,
)


def share(night, guest, seat):
    """The share that at the end a guest sits on a seat."""
    check_night(night)
    check_guest_and_seat(guest, seat, len(night[0]))
    return share_at(night, night[0].index(guest), seat)


def free_share(night, turn, seats):
    """The share that ahead of a turn just these seats are free."""
    check_night(night)
    many = len(night[0])
    if not is_counted(turn, many + 1):
        raise BadTurn("a turn is a number from 0 to as many as there are guests")
    if not is_rising(seats, many):
        raise BadSeats("seats are a rising list")
    alike = alike_seats(night, turn)
    free = many - turn
    if len(seats) != free or not all([seat in alike for seat in seats]):
        return 0, 1
    return 1, ways_to_pick(len(alike), free)


def seating(night, seats):
    """The share of a whole seating."""
    check_night(night)
    check_seating(seats, len(night[0]))
    choices, barring = walk(night, seats)
    if barring is not None:
        return 0, 1
    bottom = 1
    for choice in choices:
        bottom *= choice
    return 1, bottom


def own(night):
    """How many guests sit on their own seats, on average."""
    check_night(night)
    average = (0, 1)
    for turn, guest in enumerate(night[0]):
        average = summed(average, share_at(night, turn, guest))
    return average


def alike_seats(night, turn):
    """The seats of the lost ones and of those who come at the turn or behind it."""
    order, lost = night
    return [guest for at, guest in enumerate(order) if at >= turn or guest in lost]


def share_at(night, turn, seat):
    """The share that the guest of a turn sits down on a seat."""
    order, lost = night
    guest = order[turn]
    alike = alike_seats(night, turn)
    many = len(alike)
    free = len(order) - turn
    if seat not in alike:
        return 0, 1
    if guest in lost:
        return 1, many
    if seat == guest:
        return lowest(free, many)
    # free / many that the seat is free, (many - free) / (many - 1) that its own
    # is taken then, 1 / free that it is chosen.
    return lowest(many - free, many * (many - 1))


def ways_to_pick(many, some):
    """How many sets of some there are of so many."""
    ways = 1
    for at in range(some):
        ways = ways * (many - at) // (at + 1)
    return ways
