"""Differences of rows and lots, and which rows and lots have the same ones."""

from itertools import combinations

from ringvoices.floors import Floor
from ringvoices.lots import counted, difference_table, places_at, seats_of
from ringvoices.mixing import mirrored, mixed, single, turned_row
from ringvoices.numbers import inverse, loudness, times
from ringvoices.rings import check_lot, is_place, lot_times, moved_lot
from ringvoices.sums import is_zero, row_behind, voices_of
from ringvoices.voices import check_row, check_whole, is_row, row_of, voice


def differences(rings, row):
    """The row mixed with itself mirrored and turned about."""
    check_row(rings, row)
    return mixed(rings, row, turned_row(rings, mirrored(rings, row)))


def lot_differences(rings, places):
    """The whole row of how often each place is a place of a lot less one of it."""
    check_lot(rings, places)
    floor = Floor(rings)
    return tuple(counted(difference_table(floor), seats_of(floor, places)))


def judge_differences(rings, whole, other):
    """A row of fractions that leads the first whole row to the second one, or a label that parts them."""
    check_whole(rings, whole)
    check_whole(rings, other)
    floor = Floor(rings)
    sounds = voices_of(floor, row_of(rings, whole))
    other_sounds = voices_of(floor, row_of(rings, other))
    turns = []
    for label, one, another in zip(floor.places, sounds, other_sounds):
        if loudness(floor.order, one) != loudness(floor.order, another):
            return "label", label
        turns.append(_turn_between(floor, one, another))
    # What leads the voices to one another is exchanged as labels are taken many times: its row is one of fractions.
    return "turns", row_behind(floor, tuple(turns))


def _turn_between(floor, one, other):
    """A number of loudness 1 whose product with the first of two numbers, equally loud, is the second one."""
    if is_zero(one):
        return floor.tops_of(1), 1
    return times(floor.order, other, inverse(floor.order, one))


def differences_hold(rings, whole, other, thing):
    """Whether a thing is a certificate of two whole rows, as judge_differences gives one."""
    check_whole(rings, whole)
    check_whole(rings, other)
    if not isinstance(thing, tuple) or len(thing) != 2:
        return False
    word, part = thing
    if word == "turns":
        return is_row(rings, part) and _does_turn(rings, row_of(rings, whole), row_of(rings, other), part)
    return word == "label" and is_place(rings, part) and _are_parted_at(rings, whole, other, part)


def _does_turn(rings, one, other, row):
    if any([any(tops[1:]) for tops, _ in row]) or mixed(rings, one, row) != other:
        return False
    return differences(rings, row) == single(rings)


def _are_parted_at(rings, whole, other, label):
    order = Floor(rings).order
    one, another = voice(rings, row_of(rings, whole), label), voice(rings, row_of(rings, other), label)
    return loudness(order, one) != loudness(order, another)


def is_turned(rings, places, labels):
    """Whether the first lot, as it is or taken -1 times, can be moved so that it is the second one."""
    check_lot(rings, places)
    check_lot(rings, labels)
    sides = [places, lot_times(rings, places, -1)]
    return any([moved_lot(rings, side, place) == labels for side in sides for place in Floor(rings).places])


def companions(rings, places):
    """The ascending tuple of all lots with the same differences as a lot."""
    check_lot(rings, places)
    floor = Floor(rings)
    table = difference_table(floor)
    wanted = counted(table, seats_of(floor, places))
    # The lots have the same differences at the origin: as many places.
    lots = [lot for lot in combinations(range(len(table)), len(places)) if counted(table, lot) == wanted]
    return tuple([places_at(floor, lot) for lot in lots])
