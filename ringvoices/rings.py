"""Rings, places and lots."""

from ringvoices.divisors import units_of
from ringvoices.errors import BadCount, BadLot, BadPlace, BadRings
from ringvoices.kinds import is_ascending, is_integer, is_integers
from ringvoices.places import added, common_order, kin_of, list_places, paired, repeated

MOST_RINGS = 4
MOST_PLACES = 60


def are_rings(thing):
    """Whether a thing is rings."""
    if not is_integers(thing) or not 1 <= len(thing) <= MOST_RINGS:
        return False
    return min(thing) >= 2 and _size(thing) <= MOST_PLACES


def _size(lengths):
    size = 1
    for length in lengths:
        size = size * length
    return size


def check_rings(rings):
    """Raises BadRings with what is no rings."""
    if not are_rings(rings):
        raise BadRings(rings)


def is_place(rings, thing):
    """Whether a thing is a place of right rings."""
    if not is_integers(thing) or len(thing) != len(rings):
        return False
    return all([0 <= thing[k] < rings[k] for k in range(len(rings))])


def check_place(rings, place):
    """Raises BadRings, then BadPlace, with what is none."""
    check_rings(rings)
    if not is_place(rings, place):
        raise BadPlace(place)


def check_lot(rings, places):
    """Raises BadRings, then BadLot, with what is none."""
    if not is_lot(rings, places):
        raise BadLot(places)


def check_integer(many):
    """Raises BadCount with what is no integer."""
    if not is_integer(many):
        raise BadCount(many)


def size_of(rings):
    """How many places there are."""
    check_rings(rings)
    return _size(rings)


def order_of(rings):
    """The least common multiple of the lengths."""
    check_rings(rings)
    return common_order(rings)


def all_places(rings):
    """The lot of all places."""
    check_rings(rings)
    return tuple(list_places(rings))


def seat_of(rings, place):
    """The position of a place among all places, from 0."""
    check_place(rings, place)
    seat = 0
    for k in range(len(rings)):
        seat = seat * rings[k] + place[k]
    return seat


def place_sum(rings, one, other):
    """The sum of two places."""
    check_place(rings, one)
    check_place(rings, other)
    return added(rings, one, other)


def place_times(rings, place, many):
    """A place taken many times: any integer."""
    check_place(rings, place)
    check_integer(many)
    return repeated(rings, place, many)


def pairing(rings, place, label):
    """The power of the turn that a place and a label give."""
    check_place(rings, place)
    check_place(rings, label)
    return paired(rings, order_of(rings), place, label)


def is_lot(rings, thing):
    """Whether a thing is a lot of the rings."""
    check_rings(rings)
    if not isinstance(thing, tuple):
        return False
    # Only places can be compared: a thing may hold anything.
    return all([is_place(rings, item) for item in thing]) and is_ascending(thing)


def moved_lot(rings, places, place):
    """The lot with a place added to each of its places."""
    check_lot(rings, places)
    check_place(rings, place)
    return tuple(sorted([added(rings, one, place) for one in places]))


def lot_times(rings, places, many):
    """The lot of what comes of taking each place of a lot many times."""
    check_lot(rings, places)
    check_integer(many)
    return tuple(sorted({repeated(rings, place, many) for place in places}))


def subgroup(rings, places):
    """The lot of the origin and of all sums of places of a lot."""
    check_lot(rings, places)
    order = order_of(rings)
    found = [tuple([0 for _ in rings])]
    for place in places:
        # A place that is a sum already adds nothing; so at most five of them are worked through.
        if place not in found:
            steps = [repeated(rings, place, many) for many in range(order)]
            found = sorted({added(rings, one, step) for one in found for step in steps})
    return tuple(found)


def classes(rings):
    """The ascending tuple of the classes of labels."""
    check_rings(rings)
    units = units_of(order_of(rings))
    told = set()
    found = []
    for label in list_places(rings):
        if label not in told:
            kin = kin_of(rings, units, label)
            found.append(tuple(kin))
            for one in kin:
                told.add(one)
    return tuple(found)
