"""Mixing rows, moving and mirroring them, and undoing them by mixing."""

from ringvoices.errors import BadCount
from ringvoices.floors import Floor
from ringvoices.kinds import is_integer
from ringvoices.numbers import exchanged, inverse, norm
from ringvoices.places import added, repeated
from ringvoices.rings import check_place, check_rings, is_place, order_of
from ringvoices.sums import is_zero, mixed_rows, mixed_tops, row_behind, voices_of
from ringvoices.voices import check_row, check_whole, is_row, is_whole, row_of, voice, whole_of

MOST_POWER = 8


def mixed(rings, one, other):
    """The row of two rows mixed."""
    check_row(rings, one)
    check_row(rings, other)
    return mixed_rows(Floor(rings), one, other)


def single(rings):
    """The row that is 1 at the origin and 0 elsewhere."""
    check_rings(rings)
    return _single_row(Floor(rings))


def _single_row(floor):
    return tuple([(floor.tops_of(0 if any(place) else 1), 1) for place in floor.places])


def moved(rings, row, place):
    """The row with each item at its place with a place added."""
    check_row(rings, row)
    check_place(rings, place)
    floor = Floor(rings)
    return _laid(floor, row, [added(rings, one, place) for one in floor.places])


def mirrored(rings, row):
    """The row with each item at its place taken -1 times."""
    check_row(rings, row)
    floor = Floor(rings)
    return _laid(floor, row, [repeated(rings, one, -1) for one in floor.places])


def _laid(floor, row, places):
    # Each place comes just once among the places.
    found = {place: item for place, item in zip(places, row)}
    return tuple([found[place] for place in floor.places])


def turned_row(rings, row):
    """The row with all items turned about."""
    check_row(rings, row)
    floor = Floor(rings)
    return tuple([exchanged(floor.order, item, -1) for item in row])


def power(rings, row, n):
    """The single row, mixed with a row n times."""
    check_row(rings, row)
    if not is_integer(n) or not 0 <= n <= MOST_POWER:
        raise BadCount(n)
    floor = Floor(rings)
    total = _single_row(floor)
    for _ in range(n):
        total = mixed_rows(floor, total, row)
    return total


def judge_undone(rings, row):
    """The row that undoes a row by mixing, or a label whose voice is silent."""
    check_row(rings, row)
    floor = Floor(rings)
    sounds = voices_of(floor, row)
    for label, number in zip(floor.places, sounds):
        if is_zero(number):
            return "silent", label
    return "undone", _undoing(floor, sounds)


def _undoing(floor, sounds):
    # The voices of mixed rows are the products of the voices; those of the single row are 1.
    return row_behind(floor, tuple([inverse(floor.order, number) for number in sounds]))


def undone_holds(rings, row, thing):
    """Whether a thing is a certificate of a row, as judge_undone gives one."""
    check_row(rings, row)
    if not isinstance(thing, tuple) or len(thing) != 2:
        return False
    word, part = thing
    if word == "undone":
        return is_row(rings, part) and _undoes(Floor(rings), row, part)
    return word == "silent" and is_place(rings, part) and is_zero(voice(rings, row, part))


def _undoes(floor, one, other):
    totals, bottom = mixed_tops(floor, one, other)
    return totals == [floor.tops_of(0 if any(place) else bottom) for place in floor.places]


def judge_whole(rings, whole):
    """The whole row that undoes a whole row by mixing, or a label whose voice bars it, and the norm of this voice."""
    check_whole(rings, whole)
    floor = Floor(rings)
    sounds = voices_of(floor, row_of(rings, whole))
    for label, number in zip(floor.places, sounds):
        top, _ = norm(floor.order, number)
        if _bars(top):
            return "voice", label, top
    # The product of all voices is the determinant of mixing with the row, here 1 or -1: what undoes it is whole.
    return "undone", whole_of(rings, _undoing(floor, sounds))


def _bars(top):
    return top != 1 and top != -1


def whole_holds(rings, whole, thing):
    """Whether a thing is a certificate of a whole row, as judge_whole gives one."""
    check_whole(rings, whole)
    if not isinstance(thing, tuple):
        return False
    row = row_of(rings, whole)
    if len(thing) == 2 and thing[0] == "undone":
        return is_whole(rings, thing[1]) and _undoes(Floor(rings), row, row_of(rings, thing[1]))
    if len(thing) != 3 or thing[0] != "voice":
        return False
    _, label, top = thing
    if not is_place(rings, label) or not is_integer(top) or not _bars(top):
        return False
    return norm(order_of(rings), voice(rings, row, label)) == (top, 1)
