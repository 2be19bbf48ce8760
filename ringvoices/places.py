"""Reckoning with places. Nothing is checked here: rings.py and its like do that once."""

from math import lcm


def list_places(rings):
    """All places, ascending."""
    places = [()]
    for length in rings:
        places = [(*place, item) for place in places for item in range(length)]
    return places


def common_order(rings):
    """The least common multiple of the lengths."""
    order = 1
    for length in rings:
        order = lcm(order, length)
    return order


def added(rings, one, other):
    """The sum of two places."""
    return tuple([(one[k] + other[k]) % rings[k] for k in range(len(rings))])


def repeated(rings, place, many):
    """A place taken many times."""
    return tuple([place[k] * many % rings[k] for k in range(len(rings))])


def kin_of(rings, units, label):
    """The class of a label, ascending; units are those of the order of the rings."""
    return sorted({repeated(rings, label, j) for j in units})


def paired(rings, order, place, label):
    """The pairing of a place and a label, rings having this order."""
    total = 0
    for k in range(len(rings)):
        total += place[k] * label[k] * (order // rings[k])
    return total % order
