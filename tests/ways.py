"""Helpers of the tests: all ways of a night gone through one by one, nights, wrong values."""

import copy
import itertools
import time
from fractions import Fraction

from lostseat import errors


class Checks:
    """What several test cases look for."""

    def check_told(self, told, part):
        """It is a share, and just this one."""
        self.assertIs(type(told), tuple)
        self.assertEqual([type(number) for number in told], [int, int])
        self.assertEqual(told, as_share(part))

    def refused(self, error, call, *handed):
        with self.assertRaises(errors.SeatError) as caught:
            call(*handed)
        self.assertIs(type(caught.exception), error)

    def refused_unchanged(self, error, call, *handed):
        before = copy.deepcopy(handed)
        self.refused(error, call, *handed)
        self.assertEqual(handed, before)

    def check_nothing_changed_or_kept(self, call, handed):
        """The call tells the same anew, and nothing handed in is bound up with what it tells."""
        told_first = copy.deepcopy(call(*copy.deepcopy(handed)))
        given = copy.deepcopy(handed)
        told = call(*given)
        self.assertEqual(given, handed)
        for value in given:
            spoil(value)
        self.assertEqual(told, told_first)
        spoil(told)
        self.assertEqual(call(*copy.deepcopy(handed)), told_first)


class Prompt:
    """A test case whose tests take no longer than a while, as none that went through all ways would."""

    def setUp(self):
        self.start = time.monotonic()

    def tearDown(self):
        self.assertLess(time.monotonic() - self.start, 60)


def spoil(value):
    """Empty each list in it."""
    if isinstance(value, (list, tuple)):
        for inner in value:
            spoil(inner)
    if isinstance(value, list):
        value.clear()


def all_ways(night):
    """Each way of a night: its part of the whole, its seating, the free seats ahead of each turn."""
    order, lost = night
    rows = []

    def sit_down(turn, part, seats, frees):
        free = sorted(set(order) - set(seats.values()))
        frees = frees + [free]
        if turn == len(order):
            rows.append((part, [seats[guest] for guest in range(len(order))], frees))
            return
        guest = order[turn]
        choices = [guest] if guest not in lost and guest in free else free
        for seat in choices:
            sit_down(turn + 1, part / len(choices), {**seats, guest: seat}, frees)

    sit_down(0, Fraction(1), {}, [])
    return rows


def all_askings(night):
    """Each way of an evening with asking: its part of the whole, its seating, how often somebody is asked."""
    order, lost = night
    rows = []

    def sit_down(turn, part, seats, times):
        if turn == len(order):
            rows.append((part, [seats[guest] for guest in range(len(order))], times))
            return
        guest = order[turn]
        free = sorted(set(order) - set(seats.values()))
        if guest in lost:
            for seat in free:
                sit_down(turn + 1, part / len(free), {**seats, guest: seat}, times)
        elif guest in free:
            sit_down(turn + 1, part, {**seats, guest: guest}, times)
        else:
            [held_by] = [other for other in seats if seats[other] == guest]
            for seat in free:
                sit_down(turn + 1, part / len(free), {**seats, guest: guest, held_by: seat}, times + 1)

    sit_down(0, Fraction(1), {}, 0)
    return rows


def walked(night, seats):
    """The choices of each turn, and the first barring turn or None, seat by seat."""
    order, lost = night
    free = set(range(len(order)))
    choices = []
    for turn, guest in enumerate(order):
        if guest in free and guest not in lost:
            if seats[guest] != guest:
                return None, turn
            choices.append(1)
        else:
            choices.append(len(free))
        free.remove(seats[guest])
    return choices, None


def as_share(part):
    part = Fraction(part)
    return part.numerator, part.denominator


def subsets(many):
    """Each rising list of numbers below so many."""
    for length in range(many + 1):
        for some in itertools.combinations(range(many), length):
            yield list(some)


def seatings(many):
    for seats in itertools.permutations(range(many)):
        yield list(seats)


def pair_lists(many):
    """Each list of pairs of some guests, none, too, on seats, also on like ones."""
    for seats in itertools.product([None, *range(many)], repeat=many):
        yield [(guest, seat) for guest, seat in enumerate(seats) if seat is not None]


def small_nights():
    """All nights of 1 to 3 guests, and some of 4 to 6 with none, one, some and all lost."""
    for many in range(1, 4):
        for order in seatings(many):
            for lost in subsets(many):
                yield order, lost
    for order in ([0, 1, 2, 3], [3, 2, 1, 0], [2, 0, 3, 1], [1, 3, 0, 2]):
        for lost in subsets(4):
            yield order, lost
    for order in ([0, 1, 2, 3, 4], [4, 2, 0, 3, 1], [3, 4, 1, 0, 2]):
        for lost in ([], [0], [3], [1, 2], [0, 4], [0, 2, 3], [1, 2, 3, 4], [0, 1, 2, 3, 4]):
            yield order, lost
    for order in ([0, 1, 2, 3, 4, 5], [5, 3, 1, 4, 0, 2]):
        for lost in ([], [0], [2], [5], [0, 3], [1, 3, 4], [0, 2, 4, 5], [0, 1, 2, 3, 4, 5]):
            yield order, lost


def great_nights():
    """Nights of 40 guests, with one, several, all but one and all lost, and none."""
    plain = list(range(40))
    mixed = [guest * 7 % 40 for guest in range(40)]
    for order in (plain, plain[::-1], mixed):
        for lost in ([], [order[0]], [order[39]], [20], list(range(0, 40, 3)), list(range(20)),
                     list(range(20, 40)), plain[:-1], plain[1:], plain):
            yield list(order), list(lost)


def great_seatings():
    """Some seatings of 40 guests."""
    plain = list(range(40))
    yield plain
    yield plain[::-1]
    yield plain[1:] + [0]
    yield [39] + plain[:-1]
    yield plain[:-2] + [39, 38]
    yield [1, 0] + plain[2:]
    yield [guest ^ 1 for guest in plain]
    for step in (3, 7, 11, 39):
        for more in (0, 1, 20):
            yield [(guest * step + more) % 40 for guest in plain]


def come_along(night, picks):
    """A seating that can come: at each turn the pick of the seats to choose, rising."""
    order, lost = night
    free = list(range(len(order)))
    seats = [None] * len(order)
    for guest, pick in zip(order, picks):
        choices = [guest] if guest in free and guest not in lost else free
        seats[guest] = choices[pick % len(choices)]
        free.remove(seats[guest])
    return seats


def great_comers(night):
    """Some seatings of 40 guests that can come on the night."""
    for picks in ([0] * 40, [-1] * 40, list(range(40)), [turn * turn for turn in range(40)],
                  [turn * 17 + 5 for turn in range(40)]):
        yield come_along(night, picks)


NO_NUMBERS = (True, False, None, "", "0", "1", b"", b"0", (), (0,), [], [0], {}, {0: 0}, {0}, frozenset(),
              object(), range(1), int, Exception("0"), len, Ellipsis, 1j)
NO_LISTS = (True, False, None, 0, 1, -1, 10 ** 30, "", "01", b"", b"\x00\x01", (), (0,), (0, 1), (0, 1, 2), {},
            {0: 0, 1: 1, 2: 2}, {0, 1, 2}, frozenset([0]), object(), range(3), iter([0]), list, 1j)


def out_of_bounds(most):
    """Numbers below 0 and above most."""
    return (-1, -2, most + 1, most + 2, -most - 1, 41, 10 ** 50, -10 ** 50, 10 ** 6000)


class Unlike:
    """It refuses all comparing, as something handed in may."""

    def refuse(self, *others):
        raise RuntimeError("compared")

    __eq__ = __ne__ = __lt__ = __le__ = __gt__ = __ge__ = __hash__ = __bool__ = __len__ = refuse
    __iter__ = __index__ = __int__ = __repr__ = __str__ = __getitem__ = __contains__ = refuse


def last_wrong(many):
    """The numbers below so many, rising, but for the last one: no order, no rising list, no seating."""
    rest = list(range(many - 1))
    for wrong in (*NO_NUMBERS, Unlike(), *out_of_bounds(many - 1), 0, many - 2):
        yield rest + [wrong]


def wrong_orders():
    """What is no order."""
    yield from NO_LISTS
    yield Unlike()
    yield []
    yield list(range(41))
    yield list(range(42))
    yield [0] * 100000
    yield from ([1], [-1], [1, 2], [0, 0], [1, 1], [0, 2], [0, 1, 1], [0, 1, 3], [-1, 0, 1], [0, 1, -1])
    yield from ([0, 10 ** 50], [[0]], [[0], [1]], [(0,), 1])
    for wrong in NO_NUMBERS:
        yield [wrong]
        yield [0, wrong, 2]
        yield [0, wrong]
    yield [0, Unlike()]
    looped = []
    looped.append(looped)
    yield looped
    yield from last_wrong(40)


def wrong_risings(many):
    """What is no rising list of numbers below so many (3 or more)."""
    yield from NO_LISTS
    yield Unlike()
    yield from ([1, 0], [0, 0], [2, 1], [0, 2, 1], [1, 1], [0, 1, 1], [many], [0, many], [-1], [-1, 0])
    yield from (list(range(many + 1)), [0, 10 ** 50], [-10 ** 50], [[0]], [(0,)], [0] * 100000)
    for wrong in NO_NUMBERS:
        yield [wrong]
        yield [0, wrong]
        yield [wrong, 2]
    yield [0, Unlike()]


def wrong_nights():
    """What is no night."""
    good = [1, 0, 2]
    yield from NO_LISTS
    yield Unlike()
    yield from ([], [[0], []], [good, [1]], (good,), (good, [1], []), (good, [1], None), ([1], good))
    yield from (good, [good], {0: good, 1: [1]}, "ab", b"ab", (good, None), (None, [1]), (None, None))
    for order in wrong_orders():
        yield order, []
        yield order, [0]
    for lost in wrong_risings(3):
        yield good, lost
    yield [0], [1]
    for lost in last_wrong(40):
        yield list(range(40)), lost
        yield list(range(39, -1, -1)), lost
    for lost in last_wrong(7):
        yield list(range(7)), lost
    yield list(range(40)), [40]
    yield [0], [0, 0]
    yield list(range(41)), list(range(41))


def wrong_seatings(many):
    """What is no seating of so many (3 or more) guests."""
    good = list(range(many))
    yield from NO_LISTS
    yield Unlike()
    yield tuple(good)
    yield dict(enumerate(good))
    yield from ([], good[:-1], good[1:], good + [many], good + [0], [1] + good[1:], good[:-1] + [many])
    yield from (good[:-1] + [-1], good[:-1] + [10 ** 50], [-10 ** 50] + good[1:], [seat + 1 for seat in good])
    yield from ([0] * many, [good] * many, good * 2, [None] * many, [0] * 100000)
    for wrong in NO_NUMBERS:
        yield [wrong] + good[1:]
        yield [good[0], wrong] + good[2:]
    yield from last_wrong(many)


def wrong_pairs(many):
    """What is no list of pairs of so many (3 or more) guests."""
    good = [(guest, guest) for guest in range(many)]
    yield from NO_LISTS
    yield Unlike()
    yield from (tuple(good), dict(good), set(good), iter(good), (good,), [good], [tuple(good)], good[0])
    yield from ([(1, 0), (0, 1)], [(0, 0), (0, 1)], [(0, 0), (0, 0)], [(2, 2), (2, 1)], good[::-1], good + good)
    yield from ([(0, 0), (2, 2), (1, 1)], [(many, 0)], [(0, many)], good + [(many, 0)], good + [(0, many)])
    yield [(0, 0)] * 100000
    no_pairs = [wrong for wrong in NO_LISTS if not isinstance(wrong, tuple)]
    last = many - 1
    for wrong in (*no_pairs, Unlike(), (), (last,), (last, 0, 0), ((last, 0),), [], [last], [last, 0], {last: 0, 0: 0}):
        yield [wrong]
        yield [wrong] + good[1:]
        yield good[:-1] + [wrong]
    for wrong in wrong_counted(last):
        yield [(wrong, 0)]
        yield [(0, wrong)]
        yield [(wrong, 0)] + good[1:]
        yield good[:-1] + [(wrong, last)]
        yield good[:-1] + [(last, wrong)]
        yield good[:-1] + [(wrong, wrong)]


def wrong_counted(most):
    """What is no number from 0 to most."""
    yield from NO_NUMBERS
    yield Unlike()
    yield from out_of_bounds(most)
