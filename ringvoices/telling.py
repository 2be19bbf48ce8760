"""Which voices tell each row with few filled places, also if some are heard wrong."""

from itertools import combinations

from ringvoices.errors import BadCount
from ringvoices.floors import Floor
from ringvoices.images import are_apart, turn_images
from ringvoices.kinds import is_integer
from ringvoices.lots import places_at, seats_of
from ringvoices.lowest import check_count, least
from ringvoices.rings import check_lot, size_of
from ringvoices.sums import levelled, turned_sum
from ringvoices.voices import filled, is_row
from ringvoices.within import row_with, silent_lines


def check_slips(e):
    """Raises BadCount with what is no integer from 0 on."""
    if not is_integer(e) or e < 0:
        raise BadCount(e)


def _check_telling(rings, labels, k, e):
    check_lot(rings, labels)
    check_count(rings, k)
    check_slips(e)


def does_tell(rings, labels, k, e):
    """Whether a lot of labels tells k with e slips."""
    _check_telling(rings, labels, k, e)
    return _unheard(Floor(rings), labels, k, e) is None


def judge_telling(rings, labels, k, e):
    """That a lot tells k with e slips, or two rows that it cannot part."""
    _check_telling(rings, labels, k, e)
    floor = Floor(rings)
    found = _unheard(floor, labels, k, e)
    if found is None:
        return ("tells",)
    places, silent = found
    line = silent_lines(floor, places, silent)[0]
    # The first row less the second one is silent where they are to be alike.
    behind = [[-top for top in tops] for tops in line[k:]]
    return "alike", row_with(floor, places[:k], line[:k]), row_with(floor, places[k:], behind)


def _unheard(floor, labels, k, e):
    """Places, 2 k of them or all, and silent ones of all but 2 e of the labels, that some row has; None if none has."""
    more = min(2 * k, len(floor.places)) - 1
    found = _unheard_seats(_image_table(floor), seats_of(floor, labels), more, max(0, len(labels) - 2 * e))
    if found is None:
        return None
    places, silent = found
    return places_at(floor, places), places_at(floor, silent)


def _image_table(floor):
    """For each place the images of the turns by which the voices take its item."""
    turns = turn_images(floor.order)
    return [[turns[floor.pairing_of(place, label)] for label in floor.places] for place in floor.places]


def _unheard_seats(table, labels, more, many):
    """Seats of the origin and so many more places, and of so many of the labels, silent in some row filled there."""
    # Up to the size 8 the norm of a determinant of turns is below the prime of the images: it is 0 if its image is.
    for silent in combinations(labels, many):
        # A row that is moved has the same silent voices: the origin may be one of the places.
        for others in combinations(range(1, len(table)), more):
            places = [0, *others]
            if not are_apart([[table[place][label] for label in silent] for place in places]):
                return places, silent
    return None


def telling_holds(rings, labels, k, e, thing):
    """Whether a thing is a certificate of a lot of labels, k and e, as judge_telling gives one."""
    _check_telling(rings, labels, k, e)
    if not isinstance(thing, tuple) or len(thing) not in (1, 3):
        return False
    if len(thing) == 1:
        return thing[0] == "tells" and does_tell(rings, labels, k, e)
    word, one, other = thing
    if word != "alike" or not is_row(rings, one) or not is_row(rings, other) or one == other:
        return False
    if len(filled(rings, one)) > k or len(filled(rings, other)) > k:
        return False
    return _many_unlike(Floor(rings), one, other, labels) <= 2 * e


def _many_unlike(floor, one, other, labels):
    """How many of the labels have unlike voices in two rows."""
    tops, _ = levelled(one + other)
    many = len(floor.places)
    less = [[top - more for top, more in zip(ones, others)] for ones, others in zip(tops[:many], tops[many:])]
    return len([label for label in labels if any(turned_sum(floor, less, floor.places, label, 1))])


def least_telling(rings, k, e):
    """A lot with as few labels as can be that tells k with e slips, None if there is none."""
    check_count(rings, k)
    check_slips(e)
    floor = Floor(rings)
    table = _image_table(floor)
    size = len(table)
    most = min(2 * k, size)
    # Fewer labels than places and slips together never tell.
    for more in range(most + 2 * e - 1, size):
        # A lot that is moved tells likewise: the origin may be one of its labels.
        for others in combinations(range(1, size), more):
            seats = [0, *others]
            if _unheard_seats(table, seats, most - 1, len(seats) - 2 * e) is None:
                return places_at(floor, seats)
    return None


def sure_number(rings, k, e):
    """The least m for which all lots of m labels tell k with e slips, None if there is none up to the size."""
    check_count(rings, k)
    check_slips(e)
    size = size_of(rings)
    many = size + 1 - least(rings, min(2 * k, size)) + 2 * e
    return many if many <= size else None
