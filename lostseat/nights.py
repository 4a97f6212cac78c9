"""Nights, seatings and shares: what is one, and what the other modules need of them."""

from lostseat.errors import BadGuest, BadNight, BadSeat, BadSeating

MOST_GUESTS = 40


def is_number(value):
    """Whether it is a whole number; True and False are none."""
    return isinstance(value, int) and not isinstance(value, bool)


def is_numbers(values):
    """Whether it is a list of whole numbers, of any sign and size."""
    return isinstance(values, list) and all([is_number(value) for value in values])


def is_counted(value, many):
    """Whether it is one of the numbers 0 to many - 1, as guests and seats are."""
    return is_number(value) and 0 <= value < many


def is_rising(values, many):
    """Whether it is a list of numbers 0 to many - 1, each above the one before it."""
    if not isinstance(values, list):
        return False
    least = 0
    for value in values:
        if not is_counted(value, many) or value < least:
            return False
        least = value + 1
    return True


def is_each_once(values, many):
    """Whether it is a list of all the numbers 0 to many - 1, each once."""
    if not isinstance(values, list) or len(values) != many:
        return False
    met = [False] * many
    for value in values:
        if not is_counted(value, many) or met[value]:
            return False
        met[value] = True
    return True


def is_order(order):
    """Whether it is an order of guests."""
    if not isinstance(order, list) or not 1 <= len(order) <= MOST_GUESTS:
        return False
    return is_each_once(order, len(order))


def is_night(night):
    """Whether it is a tuple of an order and of lost ones."""
    if not isinstance(night, tuple) or len(night) != 2:
        return False
    order, lost = night
    return is_order(order) and is_rising(lost, len(order))


def check_night(night):
    """Refuse what is no night."""
    if not is_night(night):
        raise BadNight(f"a night is a tuple of an order, of 1 to {MOST_GUESTS}, and a rising list of lost ones")


def check_guest_and_seat(guest, seat, many):
    """Refuse what is no guest, then what is no seat, of so many."""
    if not is_counted(guest, many):
        raise BadGuest("a guest is a number from 0 on, below as many as there are")
    if not is_counted(seat, many):
        raise BadSeat("a seat is a number from 0 on, below as many as there are")


def check_seating(seats, many):
    """Refuse what is no seating of so many guests."""
    if not is_each_once(seats, many):
        raise BadSeating("a seating is a list that has for each guest its seat, each seat once")


def lowest(top, bottom):
    """The share of these two in lowest terms; the top is 0 or more, the bottom 1 or more."""
    whole, rest = bottom, top
    while rest:
        whole, rest = rest, whole % rest
    return top // whole, bottom // whole


def summed(one, other):
    """The share that two shares come to."""
    return lowest(one[0] * other[1] + other[0] * one[1], one[1] * other[1])


def choosable(guest, lost, free):
    """The seats that a guest can choose, a list, of those that are free."""
    if guest in free and guest not in lost:
        return [guest]
    return list(free)


def walk(night, seats):
    """How many seats could be chosen at each turn, and the turn that bars the seating.

    The turn is None if none does; else the choices are just those ahead of it.
    """
    order, lost = night
    free = sorted(order)
    choices = []
    for turn, guest in enumerate(order):
        to_choose = choosable(guest, lost, free)
        if seats[guest] not in to_choose:
            return choices, turn
        choices.append(len(to_choose))
        free.remove(seats[guest])
    return choices, None
