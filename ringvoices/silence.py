"""Silent voices: which lots of labels are silent in some row, or in some whole row."""

from ringvoices.divisors import units_of
from ringvoices.floors import Floor
from ringvoices.places import kin_of
from ringvoices.rings import check_lot, check_place, order_of
from ringvoices.sums import row_behind
from ringvoices.turns import reduced


def row_with_silent(rings, labels):
    """A row whose silent labels are just these: its other voices are 1."""
    check_lot(rings, labels)
    floor = Floor(rings)
    return row_behind(floor, tuple([(floor.tops_of(0 if label in labels else 1), 1) for label in floor.places]))


def whole_with_silent(rings, labels):
    """A whole row whose silent labels are just these, None if they are not made of whole classes."""
    if not are_classes(rings, labels):
        return None
    floor = Floor(rings)
    others = [label for label in floor.places if label not in labels]
    # The other voices are the size: all items are then sums of class sums.
    return tuple([_sum_of_turns(floor, others, place) for place in floor.places])


def are_classes(rings, labels):
    """Whether a lot of labels is made of whole classes."""
    check_lot(rings, labels)
    units = units_of(order_of(rings))
    told = set(labels)
    return all([kin in told for label in labels for kin in kin_of(rings, units, label)])


def class_sum(rings, label, place):
    """The sum of the turns to the pairings of a place and the labels of one class: an integer."""
    check_place(rings, label)
    check_place(rings, place)
    floor = Floor(rings)
    return _sum_of_turns(floor, kin_of(rings, units_of(floor.order), label), place)


def _sum_of_turns(floor, labels, place):
    # The labels are made of whole classes: the sum is an integer, and the same for the place taken -1 times.
    many = [0] * floor.order
    for label in labels:
        many[floor.pairing_of(place, label)] += 1
    return reduced(many, floor.polynomial)[0]
