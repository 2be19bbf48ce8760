"""Rows whose voices but one are equally loud, and lots that are so."""

from itertools import combinations

from ringvoices.divisors import units_of
from ringvoices.errors import BadCount
from ringvoices.floors import Floor
from ringvoices.kinds import is_integer
from ringvoices.lots import counted, difference_table, places_at, seats_of
from ringvoices.numbers import loudness
from ringvoices.rings import check_lot, is_place, lot_times, moved_lot, size_of
from ringvoices.sums import voices_of
from ringvoices.voices import check_whole, row_of


def judge_flat(rings, whole):
    """That a whole row is flat, and how loud it is; or two labels with which it is not equally loud."""
    found = _loudnesses(rings, whole)
    labels = list(found)[1:]
    for label in labels:
        if found[label] != found[labels[0]]:
            return "labels", labels[0], label
    # Differences are integers, and one of them less another one is this loudness.
    tops, _ = found[labels[0]]
    return "flat", tops[0]


def _loudnesses(rings, whole):
    """The loudness of the voice with each label, in order."""
    check_whole(rings, whole)
    floor = Floor(rings)
    sounds = voices_of(floor, row_of(rings, whole))
    return {label: loudness(floor.order, number) for label, number in zip(floor.places, sounds)}


def flat_holds(rings, whole, thing):
    """Whether a thing is a certificate of a whole row, as judge_flat gives one."""
    found = _loudnesses(rings, whole)
    if not isinstance(thing, tuple):
        return False
    if len(thing) == 2 and thing[0] == "flat":
        loud = (Floor(rings).tops_of(thing[1]), 1) if is_integer(thing[1]) else None
        return all([found[label] == loud for label in list(found)[1:]])
    if len(thing) != 3 or thing[0] != "labels":
        return False
    _, one, other = thing
    if not is_place(rings, one) or not is_place(rings, other):
        return False
    return any(one) and one < other and found[one] != found[other]


def is_difference_lot(rings, places):
    """Whether all places but the origin are equally often a difference of two places of a lot."""
    check_lot(rings, places)
    floor = Floor(rings)
    return _is_even(difference_table(floor), seats_of(floor, places))


def _is_even(table, lot):
    many = counted(table, lot)
    return all([many[seat] == many[1] for seat in range(2, len(many))])


def difference_lots(rings, c):
    """The ascending tuple of all difference lots of c places."""
    size = size_of(rings)
    if not is_integer(c) or not 0 <= c <= size:
        raise BadCount(c)
    # Each of the other places would be this often a difference.
    if c * (c - 1) % (size - 1) != 0:
        return ()
    floor = Floor(rings)
    table = difference_table(floor)
    return tuple([places_at(floor, lot) for lot in combinations(range(size), c) if _is_even(table, lot)])


def multipliers(rings, places):
    """The ascending tuple of the units by which a lot is taken to itself moved by some place."""
    check_lot(rings, places)
    floor = Floor(rings)
    lots = [moved_lot(rings, places, place) for place in floor.places]
    return tuple([j for j in units_of(floor.order) if lot_times(rings, places, j) in lots])
