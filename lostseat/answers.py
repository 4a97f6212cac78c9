"""The two answers to whether a seating can come on a night."""

from lostseat.nights import is_number, is_numbers, walk


class Answer:
    """What is told of a night and a seating."""


class Comes(Answer):
    """It can come: for each turn how many seats that guest could choose."""

    def __init__(self, choices):
        self.choices = list(choices)

    def shows(self, night, seats):
        """Whether the seating can come on the night, with just these choices."""
        choices, barring = walk(night, seats)
        return barring is None and is_numbers(self.choices) and self.choices == choices


class Bars(Answer):
    """It can't come: the first turn at which a guest passes by its own free seat."""

    def __init__(self, turn):
        self.turn = turn

    def shows(self, night, seats):
        """Whether just this turn is the first that bars the seating on the night."""
        barring = walk(night, seats)[1]
        # None is no turn, so that one as a field doesn't match a seating that comes.
        return is_number(self.turn) and self.turn == barring
