"""Sums over the places of a floor: voices, rows back, mixed rows. Nothing is checked here."""

from math import lcm

from ringvoices.places import added
from ringvoices.turns import lowered, reduced


def levelled(numbers):
    """The tops of numbers over one bottom, and this bottom."""
    bottom = 1
    for _, under in numbers:
        bottom = lcm(bottom, under)
    return [[top * (bottom // under) for top in tops] for tops, under in numbers], bottom


def turned_sum(floor, items, places, label, sign):
    """The tops of the sum of items (tops), each times the turn to the sign times the pairing of its place."""
    total = [0] * floor.order
    for tops, place in zip(items, places):
        power = sign * floor.pairing_of(place, label)
        for k, top in enumerate(tops):
            total[(power + k) % floor.order] += top
    return reduced(total, floor.polynomial)


def voices_of(floor, row):
    """The voices of a row."""
    items, bottom = levelled(row)
    sums = [turned_sum(floor, items, floor.places, label, 1) for label in floor.places]
    return tuple([lowered(tops, bottom) for tops in sums])


def row_behind(floor, row):
    """The row whose voices are the items of a row."""
    items, bottom = levelled(row)
    sums = [turned_sum(floor, items, floor.places, place, -1) for place in floor.places]
    return tuple([lowered(tops, bottom * len(sums)) for tops in sums])


def mixed_rows(floor, one, other):
    """The row of two rows mixed."""
    totals, bottom = mixed_tops(floor, one, other)
    return tuple([lowered(tops, bottom) for tops in totals])


def mixed_tops(floor, one, other):
    """The tops of two rows mixed, over one bottom, and this bottom."""
    ones, bottom = levelled(one)
    others, other_bottom = levelled(other)
    seats = floor.seats()
    totals = [[0] * (2 * floor.degree - 1) for _ in floor.places]
    for tops, place in zip(ones, floor.places):
        if any(tops):
            for other_tops, other_place in zip(others, floor.places):
                total = totals[seats[added(floor.rings, place, other_place)]]
                for i, top in enumerate(tops):
                    for k, other_top in enumerate(other_tops):
                        total[i + k] += top * other_top
    return [reduced(total, floor.polynomial) for total in totals], bottom * other_bottom


def is_zero(number):
    """Whether a number is zero."""
    tops, _ = number
    return not any(tops)
