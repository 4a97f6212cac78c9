"""Helpers of the tests: all ways of a night gone through one by one, nights, wrong values."""

import itertools
from fractions import Fraction


def all_ways(night):
    """Each way of a night: its part of the whole, its seating, the free seats ahead of each turn."""
    order, lost = night
    rows = []

    def sit_down(turn, part, seats, frees):
        free = sorted(set(order) - set(seats.values()))
        frees = frees + [free]
        if turn == len(order):
            rows.append((part, [seats[guest] for guest in range(len(order))], frees))
            return
        guest = order[turn]
        choices = [guest] if guest not in lost and guest in free else free
        for seat in choices:
            sit_down(turn + 1, part / len(choices), {**seats, guest: seat}, frees)

    sit_down(0, Fraction(1), {}, [])
    return rows


def walked(night, seats):
    """The choices of each turn, and the first barring turn or None, seat by seat."""
    order, lost = night
    free = set(range(len(order)))
    choices = []
    for turn, guest in enumerate(order):
        if guest in free and guest not in lost:
            if seats[guest] != guest:
                return None, turn
            choices.append(1)
        else:
            choices.append(len(free))
        free.remove(seats[guest])
    return choices, None


def as_share(part):
    part = Fraction(part)
    return part.numerator, part.denominator


def subsets(many):
    """Each rising list of numbers below so many."""
    for length in range(many + 1):
        for some in itertools.combinations(range(many), length):
            yield list(some)


def seatings(many):
    for seats in itertools.permutations(range(many)):
        yield list(seats)


def small_nights():
    """All nights of 1 to 3 guests, and some of 4 to 6 with none, one, some and all lost."""
    for many in range(1, 4):
        for order in seatings(many):
            for lost in subsets(many):
                yield order, lost
    for order in ([0, 1, 2, 3], [3, 2, 1, 0], [2, 0, 3, 1], [1, 3, 0, 2]):
        for lost in subsets(4):
            yield order, lost
    for order in ([0, 1, 2, 3, 4], [4, 2, 0, 3, 1], [3, 4, 1, 0, 2]):
        for lost in ([], [0], [3], [1, 2], [0, 4], [0, 2, 3], [1, 2, 3, 4], [0, 1, 2, 3, 4]):
            yield order, lost
    for order in ([0, 1, 2, 3, 4, 5], [5, 3, 1, 4, 0, 2]):
        for lost in ([], [0], [2], [5], [0, 3], [1, 3, 4], [0, 2, 4, 5], [0, 1, 2, 3, 4, 5]):
            yield order, lost


def great_nights():
    """Nights of 40 guests, with one, several, all but one and all lost, and none."""
    plain = list(range(40))
    mixed = [guest * 7 % 40 for guest in range(40)]
    for order in (plain, plain[::-1], mixed):
        for lost in ([], [order[0]], [order[39]], [20], list(range(0, 40, 3)), list(range(20)),
                     list(range(20, 40)), plain[:-1], plain[1:], plain):
            yield list(order), list(lost)


NO_NUMBERS = (True, False, None, "", "0", "1", b"", b"0", (), (0,), [], [0], {}, {0: 0}, {0}, frozenset(),
              object(), range(1), int, Exception("0"), len, Ellipsis, 1j)
NO_LISTS = (True, False, None, 0, 1, -1, 10 ** 30, "", "01", b"", b"\x00\x01", (), (0,), (0, 1), (0, 1, 2), {},
            {0: 0, 1: 1, 2: 2}, {0, 1, 2}, frozenset([0]), object(), range(3), iter([0]), list, 1j)


def out_of_bounds(most):
    """Numbers below 0 and above most."""
    return (-1, -2, most + 1, most + 2, -most - 1, 41, 10 ** 50, -10 ** 50, 10 ** 6000)


class Unlike:
    """It refuses all comparing, as something handed in may."""

    def refuse(self, *others):
        raise RuntimeError("compared")

    __eq__ = __ne__ = __lt__ = __le__ = __gt__ = __ge__ = __hash__ = __bool__ = __len__ = refuse
    __iter__ = __index__ = __int__ = __repr__ = __str__ = __getitem__ = __contains__ = refuse


def wrong_orders():
    """What is no order."""
    yield from NO_LISTS
    yield Unlike()
    yield []
    yield list(range(41))
    yield list(range(42))
    yield [0] * 100000
    yield from ([1], [-1], [1, 2], [0, 0], [1, 1], [0, 2], [0, 1, 1], [0, 1, 3], [-1, 0, 1], [0, 1, -1])
    yield from ([0, 10 ** 50], [[0]], [[0], [1]], [(0,), 1])
    for wrong in NO_NUMBERS:
        yield [wrong]
        yield [0, wrong, 2]
        yield [0, wrong]
    yield [0, Unlike()]
    looped = []
    looped.append(looped)
    yield looped


def wrong_risings(many):
    """What is no rising list of numbers below so many (3 or more)."""
    yield from NO_LISTS
    yield Unlike()
    yield from ([1, 0], [0, 0], [2, 1], [0, 2, 1], [1, 1], [0, 1, 1], [many], [0, many], [-1], [-1, 0])
    yield from (list(range(many + 1)), [0, 10 ** 50], [-10 ** 50], [[0]], [(0,)], [0] * 100000)
    for wrong in NO_NUMBERS:
        yield [wrong]
        yield [0, wrong]
        yield [wrong, 2]
    yield [0, Unlike()]


def wrong_nights():
    """What is no night."""
    good = [1, 0, 2]
    yield from NO_LISTS
    yield Unlike()
    yield from ([], [[0], []], [good, [1]], (good,), (good, [1], []), (good, [1], None), ([1], good))
    yield from (good, [good], {0: good, 1: [1]}, "ab", b"ab", (good, None), (None, [1]), (None, None))
    for order in wrong_orders():
        yield order, []
        yield order, [0]
    for lost in wrong_risings(3):
        yield good, lost
    yield [0], [1]
    yield list(range(40)), [40]
    yield [0], [0, 0]


def wrong_seatings(many):
    """What is no seating of so many (3 or more) guests."""
    good = list(range(many))
    yield from NO_LISTS
    yield Unlike()
    yield tuple(good)
    yield dict(enumerate(good))
    yield from ([], good[:-1], good[1:], good + [many], good + [0], [1] + good[1:], good[:-1] + [many])
    yield from (good[:-1] + [-1], good[:-1] + [10 ** 50], [-10 ** 50] + good[1:], [seat + 1 for seat in good])
    yield from ([0] * many, [good] * many, good * 2, [None] * many, [0] * 100000)
    for wrong in NO_NUMBERS:
        yield [wrong] + good[1:]
        yield [good[0], wrong] + good[2:]
    yield good[:-1] + [Unlike()]


def wrong_counted(most):
    """What is no number from 0 to most."""
    yield from NO_NUMBERS
    yield Unlike()
    yield from out_of_bounds(most)
