"""Heard voices: which rows with few filled places fit them, some of them perhaps heard wrong."""

from itertools import combinations

from ringvoices.fitting import Known, spanning_rows
from ringvoices.floors import Floor
from ringvoices.images import first_image, image_of, image_steps, turn_images
from ringvoices.lowest import check_count
from ringvoices.pairs import are_pairs, check_heard
from ringvoices.sums import levelled, turned_sum
from ringvoices.telling import check_slips
from ringvoices.turns import lowered
from ringvoices.voices import check_row, filled, is_row


def is_heard(rings, thing):
    """Whether a thing is heard voices."""
    return are_pairs(rings, thing)


def fits(rings, row, heard, k, e):
    """Whether a row has at most k filled places and at most e slips."""
    check_row(rings, row)
    _check_heard_counts(rings, heard, k, e)
    return _does_fit(rings, row, heard, k, e)


def _check_heard_counts(rings, heard, k, e):
    check_heard(rings, heard)
    check_count(rings, k)
    check_slips(e)


def _does_fit(rings, row, heard, k, e):
    return len(filled(rings, row)) <= k and len(slips(rings, row, heard)) <= e


def slips(rings, row, heard):
    """The lot of the heard labels with which the row has another voice."""
    check_row(rings, row)
    check_heard(rings, heard)
    floor = Floor(rings)
    items, bottom = levelled(row)
    sounds = [lowered(turned_sum(floor, items, floor.places, label, 1), bottom) for label, _ in heard]
    return tuple([label for (label, number), sound in zip(heard, sounds) if number != sound])


def judge_heard(rings, heard, k, e):
    """The only row that fits, or two that do, or that none does."""
    _check_heard_counts(rings, heard, k, e)
    found = []
    for known in _chances(Floor(rings), heard, k, e):
        for row in spanning_rows(known):
            if row not in found:
                found.append(row)
        if len(found) > 1:
            return "two", found[0], found[1]
    return ("one", found[0]) if found != [] else ("none",)


def heard_holds(rings, heard, k, e, thing):
    """Whether a thing is a certificate of heard voices, k and e, as judge_heard gives one."""
    _check_heard_counts(rings, heard, k, e)
    if not isinstance(thing, tuple) or len(thing) not in (1, 2, 3):
        return False
    if not all([is_row(rings, row) and _does_fit(rings, row, heard, k, e) for row in thing[1:]]):
        return False
    if len(thing) == 3:
        return thing[0] == "two" and thing[1] != thing[2]
    word = "one" if len(thing) == 2 else "none"
    return thing[0] == word and judge_heard(rings, heard, k, e)[0] == word


def sure_items(rings, heard, k, e):
    """The pairs of a place and its item, where all rows that fit have the same one; None if no row fits."""
    _check_heard_counts(rings, heard, k, e)
    floor = Floor(rings)
    sure = None
    for known in _chances(floor, heard, k, e):
        for row in spanning_rows(known):
            pairs = list(zip(floor.places, row))
            sure = [pair for pair in pairs if sure is None or pair in sure]
        if sure == []:
            break
    return None if sure is None else tuple(sure)


def _chances(floor, heard, k, e):
    """What would be known of a row, for each choice of k filled places and of right heard voices that it may fit."""
    zero = (floor.tops_of(0), 1)
    turn, turns = first_image(floor.order), turn_images(floor.order)
    tops, _ = levelled([number for _, number in heard])
    sounds = [image_of(turn, one) for one in tops]
    found = []
    for places in combinations(floor.places, k):
        empty = tuple([(place, zero) for place in floor.places if place not in places])
        lines = []
        for (label, _), sound in zip(heard, sounds):
            lines.append([turns[floor.pairing_of(place, label)] for place in places] + [sound])
        for chosen in _may_hold(lines, max(0, len(heard) - e)):
            found.append(Known(floor, empty, tuple([heard[at] for at in chosen])))
    return found


def _may_hold(lines, many):
    """The choices of so many lines of images that come to their last ones with some images of items."""
    found = []
    # The few turns have determinants whose norms are below the prime: what no images fit, no items do.
    for chosen in combinations(range(len(lines)), many):
        steps = image_steps([lines[at] for at in chosen])
        if all([at < len(lines[0]) - 1 for at, _ in steps]):
            found.append(chosen)
    return found
