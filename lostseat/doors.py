"""A door at which the guests of a night come in their turn, each on a seat that it can choose."""

from lostseat.errors import AllCame, BadSeat
from lostseat.nights import check_night, choosable, is_number


class Door:
    """Who has come at a night's door so far, and where they sit."""

    def __init__(self, night):
        check_night(night)
        order, lost = night
        self.order = list(order)
        self.lost = list(lost)
        self.turn = 0
        self.seats = [None] * len(order)
        self.bottom = 1

    def come(self, seat):
        """Let the next guest take a seat; the guest who takes it."""
        guest = self.next_guest()
        if guest is None:
            raise AllCame("all guests have come")
        to_choose = self.open_seats()
        # True and False are like 1 and 0 to `in`.
        if not is_number(seat) or seat not in to_choose:
            raise BadSeat("the guest who comes next can't choose this")
        self.seats[guest] = seat
        self.bottom *= len(to_choose)
        self.turn += 1
        return guest

    def next_guest(self):
        """The guest who comes next, None if all have come."""
        if self.turn == len(self.order):
            return None
        return self.order[self.turn]

    def open_seats(self):
        """The seats, rising, that the next guest can choose, none if all have come."""
        free = [seat for seat in range(len(self.order)) if seat not in self.seats]
        return choosable(self.next_guest(), self.lost, free)

    def taken(self):
        """For each guest its seat, None if it hasn't come."""
        return list(self.seats)

    def so_far(self):
        """The share of all that came so far."""
        return 1, self.bottom
