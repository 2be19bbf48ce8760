"""Thinned and folded rows on coarser rings, and which rows are told by thinning."""

from ringvoices.errors import BadSteps
from ringvoices.kinds import is_integers
from ringvoices.places import list_places
from ringvoices.rings import check_lot, check_place, check_rings, is_place
from ringvoices.voices import check_whole


def is_steps(rings, thing):
    """Whether a thing is steps for rings."""
    check_rings(rings)
    if not is_integers(thing) or len(thing) != len(rings):
        return False
    return all([1 <= step < length and length % step == 0 for length, step in zip(rings, thing)])


def _check_steps(rings, steps):
    """Raises BadRings, then BadSteps, with what is none."""
    if not is_steps(rings, steps):
        raise BadSteps(steps)


def coarse_rings(rings, steps):
    """The rings with their lengths divided by the steps."""
    _check_steps(rings, steps)
    return tuple([length // step for length, step in zip(rings, steps)])


def fallen(rings, steps, label):
    """The label of the coarse rings that falls from a label."""
    _check_steps(rings, steps)
    check_place(rings, label)
    return _fallen_label(coarse_rings(rings, steps), label)


def _fallen_label(coarse, label):
    return tuple([item % length for item, length in zip(label, coarse)])


def _laid(rings, whole):
    return {place: item for place, item in zip(list_places(rings), whole)}


def thinned(rings, whole, steps):
    """The whole row on the coarse rings of the items at all places taken the steps."""
    check_whole(rings, whole)
    places = list_places(coarse_rings(rings, steps))
    laid = _laid(rings, whole)
    return tuple([laid[tuple([item * step for item, step in zip(place, steps)])] for place in places])


def folded(rings, whole, steps):
    """The whole row on the coarse rings of the sums of the items at all places from which one falls."""
    check_whole(rings, whole)
    coarse = coarse_rings(rings, steps)
    sums = {place: 0 for place in list_places(coarse)}
    for place, item in _laid(rings, whole).items():
        sums[_fallen_label(coarse, place)] += item
    return tuple(list(sums.values()))


def judge_thinning(rings, labels, steps):
    """That rows that sound within a lot are told by steps, or two labels of it from which one label falls."""
    check_lot(rings, labels)
    coarse = coarse_rings(rings, steps)
    ahead = {}
    for label in labels:
        low = _fallen_label(coarse, label)
        if low in ahead:
            return "pair", ahead[low], label
        ahead[low] = label
    return ("told",)


def thinning_holds(rings, labels, steps, thing):
    """Whether a thing is a certificate of a lot of labels and steps, as judge_thinning gives one."""
    check_lot(rings, labels)
    _check_steps(rings, steps)
    if not isinstance(thing, tuple) or len(thing) not in (1, 3):
        return False
    if len(thing) == 1:
        return thing == judge_thinning(rings, labels, steps)
    word, one, other = thing
    # Only places can be compared: a thing may hold anything.
    if word != "pair" or not is_place(rings, one) or not is_place(rings, other):
        return False
    if one not in labels or other not in labels or one >= other:
        return False
    return fallen(rings, steps, one) == fallen(rings, steps, other)
