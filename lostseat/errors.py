"""The refusals: one class for each thing that can be wrong with what is handed in."""


class SeatError(ValueError):
    """What is handed in is refused."""


class BadNight(SeatError):
    """No night."""


class BadOrder(SeatError):
    """No order."""


class BadGuest(SeatError):
    """No guest of the night."""


class BadSeat(SeatError):
    """No seat of the night, or none that can be chosen."""


class BadTurn(SeatError):
    """No turn of the night."""


class BadSeats(SeatError):
    """No rising list of seats of the night."""


class BadPairs(SeatError):
    """No list of pairs of a guest and a seat, rising by unlike guests."""


class BadSeating(SeatError):
    """No seating of so many guests."""


class BadNumber(SeatError):
    """No number of a seating."""


class TooMany(SeatError):
    """More guests than seatings are counted for."""


class NotSo(SeatError):
    """A seating that can't come."""


class AllCame(SeatError):
    """All guests have come already."""
