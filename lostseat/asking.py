"""Evenings at which guests ask for their own seats back.

Ahead of a turn all who have come and haven't lost sit on their own seats, and
the lost ones who have come are spread over the alike seats of sharing.py, each
spread with the same share: who is asked finds any of those still free alike.
"""

from lostseat.nights import check_guest_and_seat, check_night, summed


def share_back(night, guest, seat):
    """The share that at the end of such an evening a guest sits on a seat."""
    check_night(night)
    order, lost = night
    check_guest_and_seat(guest, seat, len(order))
    if guest not in lost:
        return (1, 1) if seat == guest else (0, 1)
    return (1, len(lost)) if seat in lost else (0, 1)


def asked(night):
    """How many times somebody is asked on such an evening, on average."""
    check_night(night)
    order, lost = night
    average = (0, 1)
    lost_who_came = 0
    for turn, guest in enumerate(order):
        if guest in lost:
            lost_who_came += 1
        else:
            # So many lost ones are spread over their seats and as many as are free.
            average = summed(average, (lost_who_came, lost_who_came + len(order) - turn))
    return average
