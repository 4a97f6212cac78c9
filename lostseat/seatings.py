"""Whole seatings: whether one can come, who must have lost, and those of small nights by number."""

from lostseat.answers import Bars, Comes
from lostseat.errors import BadNumber, BadOrder, NotSo, TooMany
from lostseat.nights import MOST_GUESTS, check_night, check_seating, choosable, is_counted, is_order, walk

MOST_NUMBERED = 6


def judged(night, seats):
    """Whether the seating can come on the night: a Comes if it can, else a Bars."""
    check_night(night)
    check_seating(seats, len(night[0]))
    choices, barring = walk(night, seats)
    if barring is None:
        return Comes(choices)
    return Bars(barring)


def must(order, seats):
    """The guests, rising, who must have lost if this seating came."""
    if not is_order(order):
        raise BadOrder(f"an order is a list of all guests, 1 to {MOST_GUESTS}, each once")
    check_seating(seats, len(order))
    lost = []
    used = []
    for guest in order:
        # Who finds its own seat used may sit anywhere without having lost.
        if seats[guest] != guest and guest not in used:
            lost.append(guest)
        used.append(seats[guest])
    return sorted(lost)


def how_many(night):
    """How many seatings can come on a small night."""
    check_small(night)
    return len(all_seatings(night))


def seating_by(night, number):
    """The seating of a number, from 0 on, on a small night."""
    check_small(night)
    rows = all_seatings(night)
    if not is_counted(number, len(rows)):
        raise BadNumber("a number is one from 0 on, below as many as there are seatings that can come")
    return rows[number]


def number_of(night, seats):
    """The number of a seating that can come on a small night."""
    check_small(night)
    check_seating(seats, len(night[0]))
    rows = all_seatings(night)
    if seats not in rows:
        raise NotSo("this seating can't come")
    return rows.index(seats)


def check_small(night):
    """Refuse what is no night, then one of more guests than are numbered."""
    check_night(night)
    if len(night[0]) > MOST_NUMBERED:
        raise TooMany(f"seatings are numbered for at most {MOST_NUMBERED} guests")


def all_seatings(night):
    """All seatings that can come, in order of lists."""
    order, lost = night
    rows = [[None] * len(order)]
    for guest in order:
        rows = [seated(row, guest, seat) for row in rows for seat in choosable(guest, lost, unused(row))]
    return sorted(rows)


def unused(row):
    """The seats, rising, that nobody sits on in a row of seats and Nones."""
    return [seat for seat in range(len(row)) if seat not in row]


def seated(row, guest, seat):
    """A new row in which the guest has this seat."""
    return row[:guest] + [seat] + row[guest + 1:]
