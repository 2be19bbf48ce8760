"""Rows of which some items are seen and some voices heard: what fits, what is sure, and what is open."""

from ringvoices.errors import Unfit
from ringvoices.fitting import (Known, are_parted, barring_weights, does_bar, fitting_row, idle_lines, is_target,
                                product_sum, row_beside, target_weights)
from ringvoices.floors import Floor
from ringvoices.heard import slips
from ringvoices.lowest import room
from ringvoices.numbers import is_number
from ringvoices.pairs import are_pairs, check_heard, check_seen
from ringvoices.rings import check_lot, check_place, seat_of
from ringvoices.solving import stepped
from ringvoices.voices import is_row
from ringvoices.within import lines_within, others_of


def is_seen(rings, thing):
    """Whether a thing is seen items."""
    return are_pairs(rings, thing)


def _checked(rings, seen, heard):
    """What is known, if all of it is right: else raises BadRings, BadSeen, BadHeard."""
    check_seen(rings, seen)
    check_heard(rings, heard)
    return Known(Floor(rings), seen, heard)


def judge_half(rings, seen, heard):
    """A row that fits, or weights that bar it."""
    known = _checked(rings, seen, heard)
    weights = barring_weights(known)
    if weights is None:
        return "row", fitting_row(known)
    return "weights", *weights


def half_holds(rings, seen, heard, thing):
    """Whether a thing is a certificate of seen items and heard voices, as judge_half gives one."""
    known = _checked(rings, seen, heard)
    if not isinstance(thing, tuple):
        return False
    if len(thing) == 2 and thing[0] == "row":
        return _does_fit(rings, seen, heard, thing[1])
    if len(thing) != 3 or thing[0] != "weights" or not _are_weights(known, thing):
        return False
    nothing = {place: known.floor.tops_of(0) for place in known.floor.places}
    return is_target(known, thing[1], thing[2], nothing) and does_bar(known, thing[1], thing[2])


def _does_fit(rings, seen, heard, thing):
    """Whether a thing is a row with the seen items and the heard voices."""
    if not is_row(rings, thing):
        return False
    return all([thing[seat_of(rings, place)] == number for place, number in seen]) and slips(rings, thing, heard) == ()


def _are_weights(known, thing):
    """Whether behind its first item a thing has numbers for the seen items, and numbers for the heard voices."""
    _, ones, others = thing
    return _are_numbers(known.floor, ones, known.places) and _are_numbers(known.floor, others, known.labels)


def _are_numbers(floor, thing, places):
    if not isinstance(thing, tuple) or len(thing) != len(places):
        return False
    return all([is_number(floor.order, item) for item in thing])


def _checked_at(rings, seen, heard, place):
    """What is known, if all of it is right and some row fits: else raises the errors of _checked, BadPlace, Unfit."""
    known = _checked(rings, seen, heard)
    check_place(rings, place)
    weights = barring_weights(known)
    if weights is not None:
        raise Unfit(("weights", *weights))
    return known


def judge_item(rings, seen, heard, place):
    """Weights that give the item at a place in each row, or two rows that fit with unlike ones."""
    known = _checked_at(rings, seen, heard, place)
    return _judged(known, _item_target(known.floor, place))


def judge_voice(rings, seen, heard, label):
    """Weights that give the voice with a label in each row, or two rows that fit with unlike ones."""
    known = _checked_at(rings, seen, heard, label)
    return _judged(known, _voice_target(known.floor, label))


def _item_target(floor, at):
    return {place: floor.tops_of(1 if place == at else 0) for place in floor.places}


def _voice_target(floor, label):
    turns = floor.tops_of_turns()
    return {place: turns[floor.pairing_of(place, label)] for place in floor.places}


def _judged(known, target):
    weights = target_weights(known, target)
    if weights is not None:
        return "sure", *weights
    row = fitting_row(known)
    wanted = [target[place] for place in known.free]
    lines = [line for line in idle_lines(known) if any(product_sum(known.floor, line, wanted))]
    return "open", row, row_beside(known, row, lines[0])


def item_holds(rings, seen, heard, place, thing):
    """Whether a thing is a certificate of seen items, heard voices and a place, as judge_item gives one."""
    known = _checked_at(rings, seen, heard, place)
    return _is_judgement(seen, heard, known, _item_target(known.floor, place), thing)


def voice_holds(rings, seen, heard, label, thing):
    """Whether a thing is a certificate of seen items, heard voices and a label, as judge_voice gives one."""
    known = _checked_at(rings, seen, heard, label)
    return _is_judgement(seen, heard, known, _voice_target(known.floor, label), thing)


def _is_judgement(seen, heard, known, target, thing):
    if not isinstance(thing, tuple) or len(thing) != 3:
        return False
    word, one, other = thing
    if word == "sure":
        return _are_weights(known, thing) and is_target(known, one, other, target)
    rings = known.floor.rings
    if word != "open" or not _does_fit(rings, seen, heard, one) or not _does_fit(rings, seen, heard, other):
        return False
    return are_parted(known.floor, one, other, target)


def open_room(rings, places, labels):
    """The room of the places that are not seen and the labels that are not heard."""
    check_lot(rings, places)
    check_lot(rings, labels)
    floor = Floor(rings)
    return room(rings, tuple(others_of(floor, places)), tuple(others_of(floor, labels)))


def further_places(rings, places, labels):
    """A lot of further places, as few as can be, with which the open room would be 0."""
    check_lot(rings, places)
    check_lot(rings, labels)
    floor = Floor(rings)
    free = others_of(floor, places)
    lines = lines_within(floor, free, others_of(floor, labels))
    # Where the steps of these rows are, no sum of them is 0 everywhere.
    return tuple(sorted([free[at] for at, _ in stepped(floor, lines)]))
