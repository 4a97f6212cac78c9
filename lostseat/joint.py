"""Shares of told guests on told seats, all together.

It holds of all of them just if at each turn a told guest sits down on its told
seat, and who isn't told on none that is told. Ahead of a turn, if it has held
so far, the told seats of those still to come are free and other told ones are
taken. Nobody who has come tells the untold ones among the alike seats of
sharing.py apart: each set of as many as are free has the same share. So the
share that it goes on to hold at a turn is known, and no way has to be gone
through.
"""

from lostseat.errors import BadPairs
from lostseat.nights import check_night, is_counted, is_rising, lowest
from lostseat.sharing import alike_seats


def together(night, pairs):
    """The share that at the end each guest of the pairs sits on its seat there."""
    check_night(night)
    many = len(night[0])
    if not are_pairs(pairs, many):
        raise BadPairs("pairs are a list of tuples of a guest and a seat, rising by unlike guests")
    seat_of = {guest: seat for guest, seat in pairs}
    guest_on = {seat: guest for guest, seat in pairs}
    if len(guest_on) < len(seat_of):
        return 0, 1
    top, bottom = 1, 1
    for turn in range(many):
        more_top, more_bottom = share_of_turn(night, turn, seat_of, guest_on)
        # The counts of later turns mean nothing once it can't hold.
        if more_top == 0:
            return 0, 1
        top *= more_top
        bottom *= more_bottom
    return lowest(top, bottom)


def are_pairs(pairs, many):
    """Whether it is a list of pairs of a guest and a seat, each guest above the one before it."""
    if not isinstance(pairs, list) or not all([is_pair(pair, many) for pair in pairs]):
        return False
    return is_rising([guest for guest, seat in pairs], many)


def is_pair(pair, many):
    """Whether it is a tuple of a guest and a seat, of so many."""
    return isinstance(pair, tuple) and len(pair) == 2 and all([is_counted(number, many) for number in pair])


def share_of_turn(night, turn, seat_of, guest_on):
    """The top and the bottom of the share that it holds at a turn, too, if it has so far."""
    order, lost = night
    guest = order[turn]
    free = len(order) - turn
    if guest in seat_of:
        fitting, own_fits = 1, seat_of[guest] == guest
    else:
        fitting, own_fits = untold_to_come(order, turn, seat_of), guest not in guest_on
    # In so many of all cases it is due to take its own seat, else any that is free.
    due, cases = (0, 1) if guest in lost else own_is_free(night, turn, seat_of, guest_on)
    due_and_fits = due if own_fits else 0
    return due_and_fits * free + (cases - due) * fitting, cases * free


def own_is_free(night, turn, seat_of, guest_on):
    """The top and the bottom of the share that the seat of a turn's guest is free, if it has held so far."""
    order = night[0]
    guest = order[turn]
    if guest in guest_on:
        is_to_come = order.index(guest_on[guest]) >= turn
        return (1, 1) if is_to_come else (0, 1)
    untold = [seat for seat in alike_seats(night, turn) if seat not in guest_on]
    return untold_to_come(order, turn, seat_of), len(untold)


def untold_to_come(order, turn, seat_of):
    """How many who aren't told come at a turn or behind it: as many untold seats are free then."""
    return len([guest for guest in order[turn:] if guest not in seat_of])
