"""Reckoning with places. Nothing is checked here: rings.py and its like do that once."""

from math import gcd


def list_places(rings):
    """All places, ascending."""
    places = [()]
    for length in rings:
        places = [(*place, item) for place in places for item in range(length)]
    return places


def added(rings, one, other):
    """The sum of two places."""
    return tuple([(one[k] + other[k]) % rings[k] for k in range(len(rings))])


def repeated(rings, place, many):
    """A place taken many times."""
    return tuple([place[k] * many % rings[k] for k in range(len(rings))])


def paired(rings, order, place, label):
    """The pairing of a place and a label, rings having this order."""
    total = 0
    for k in range(len(rings)):
        total += place[k] * label[k] * (order // rings[k])
    return total % order


def units_of(order):
    """The integers from 1 to the order without a common divisor above 1 with it, 1 the first."""
    return [j for j in range(1, order + 1) if gcd(j, order) == 1]
