"""Pairs of a place, or a label, and a number: seen items and heard voices."""

from ringvoices.errors import BadHeard, BadSeen
from ringvoices.kinds import is_ascending
from ringvoices.numbers import is_number
from ringvoices.rings import is_place, order_of


def are_pairs(rings, thing):
    """Whether a thing is an ascending tuple of pairs of a place and a number, no place twice."""
    order = order_of(rings)
    if not isinstance(thing, tuple) or not all([_is_pair(rings, order, part) for part in thing]):
        return False
    return is_ascending([place for place, _ in thing])


def _is_pair(rings, order, thing):
    if not isinstance(thing, tuple) or len(thing) != 2:
        return False
    place, number = thing
    return is_place(rings, place) and is_number(order, number)


def check_heard(rings, heard):
    """Raises BadRings, then BadHeard, with what is none."""
    if not are_pairs(rings, heard):
        raise BadHeard(heard)


def check_seen(rings, seen):
    """Raises BadRings, then BadSeen, with what is none."""
    if not are_pairs(rings, seen):
        raise BadSeen(seen)
