"""Rows of numbers, and their voices."""

from ringvoices.errors import BadRow, BadWhole
from ringvoices.floors import Floor
from ringvoices.kinds import is_integers
from ringvoices.numbers import is_number
from ringvoices.rings import check_place, order_of, size_of
from ringvoices.sums import is_zero, levelled, row_behind, turned_sum, voices_of
from ringvoices.turns import lowered


def is_row(rings, thing):
    """Whether a thing is a row on the rings."""
    size, order = size_of(rings), order_of(rings)
    if not isinstance(thing, tuple) or len(thing) != size:
        return False
    return all([is_number(order, item) for item in thing])


def is_whole(rings, thing):
    """Whether a thing is a whole row on the rings."""
    size = size_of(rings)
    return is_integers(thing) and len(thing) == size


def check_row(rings, row):
    """Raises BadRings, then BadRow, with what is none."""
    if not is_row(rings, row):
        raise BadRow(row)


def check_whole(rings, whole):
    """Raises BadRings, then BadWhole, with what is none."""
    if not is_whole(rings, whole):
        raise BadWhole(whole)


def row_of(rings, whole):
    """The row that a whole row stands for."""
    check_whole(rings, whole)
    floor = Floor(rings)
    return tuple([(floor.tops_of(item), 1) for item in whole])


def whole_of(rings, row):
    """The whole row that stands for a row, None if some item is no integer."""
    check_row(rings, row)
    if any([bottom != 1 or any(tops[1:]) for tops, bottom in row]):
        return None
    return tuple([tops[0] for tops, _ in row])


def voice(rings, row, label):
    """The voice of a row with a label."""
    check_row(rings, row)
    check_place(rings, label)
    floor = Floor(rings)
    items, bottom = levelled(row)
    return lowered(turned_sum(floor, items, floor.places, label, 1), bottom)


def voices(rings, row):
    """The row of the voices with all labels, in order."""
    check_row(rings, row)
    return voices_of(Floor(rings), row)


def row_back(rings, row):
    """The row whose voices are the items of a row."""
    check_row(rings, row)
    return row_behind(Floor(rings), row)


def filled(rings, row):
    """The lot of the filled places of a row."""
    check_row(rings, row)
    return _places_of_some(Floor(rings), row)


def sounding(rings, row):
    """The lot of the labels of the sounding voices of a row."""
    check_row(rings, row)
    floor = Floor(rings)
    return _places_of_some(floor, voices_of(floor, row))


def _places_of_some(floor, row):
    return tuple([place for place, item in zip(floor.places, row) if not is_zero(item)])
