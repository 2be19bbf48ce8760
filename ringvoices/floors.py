"""Floors: right rings with what is reckoned of them again and again."""

from ringvoices.places import common_order, list_places, paired
from ringvoices.turns import polynomial_of, reduced


class Floor:
    """Rings with their order, its ring polynomial and degree, and their places in order."""

    def __init__(self, rings):
        self.rings = rings
        self.order = common_order(rings)
        self.polynomial = polynomial_of(self.order)
        self.degree = len(self.polynomial) - 1
        self.places = list_places(rings)

    def pairing_of(self, place, label):
        """The pairing of a place and a label."""
        return paired(self.rings, self.order, place, label)

    def tops_of(self, whole):
        """The tops of an integer."""
        return (whole,) + (0,) * (self.degree - 1)

    def tops_of_turns(self):
        """The tops of all powers of the first turn, in order."""
        return [reduced([0] * power + [1], self.polynomial) for power in range(self.order)]

    def seats(self):
        """The seat of each place."""
        return {place: seat for seat, place in enumerate(self.places)}
