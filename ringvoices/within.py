"""Rows within lots of places and labels, and weights that bar them. Nothing is checked here."""

from ringvoices.solving import nullifying, solved
from ringvoices.turns import lowered


def others_of(floor, lot):
    """The places that are not in a lot, in order."""
    told = set(lot)
    return [place for place in floor.places if place not in told]


def lines_within(floor, places, labels):
    """A base of the rows within: lines of the tops of their items at the places."""
    return silent_lines(floor, places, others_of(floor, labels))


def silent_lines(floor, places, labels):
    """A base of the rows that are filled at these places alone, and silent with these labels: lines as above."""
    return nullifying(floor, bars_of(floor, places, labels), len(places))


def bars_of(floor, places, labels):
    """A line for each label: the tops of the turns by which its voice takes the items at the places."""
    turns = floor.tops_of_turns()
    return [[turns[floor.pairing_of(place, label)] for place in places] for label in labels]


def row_with(floor, places, line):
    """The row with the tops of a line at the places, and 0 elsewhere."""
    laid = {place: tops for place, tops in zip(places, line)}
    zero = floor.tops_of(0)
    return tuple([lowered(laid.get(place, zero), 1) for place in floor.places])


def mingled(lines, zeros):
    """A sum of whole multiples of lines that is 0 just where all of them are; zeros is the line of zeros."""
    total = zeros
    for line in lines:
        many = 1
        # At each place at most one multiple is wrong.
        while _meets(total, line, many):
            many += 1
        total = [_sum(tops, others, many) for tops, others in zip(total, line)]
    return total


def _meets(total, line, many):
    return any([any(tops) and not any(_sum(tops, others, many)) for tops, others in zip(total, line)])


def _sum(tops, others, many):
    return [top + many * other for top, other in zip(tops, others)]


def weights_for(floor, ones, others, at, sign):
    """Numbers for the others: their sum, turned by the pairings with one of ones, is 1 for at and 0 for the rest.

    The pairings are taken sign times. None if there are no such numbers.
    """
    turns = floor.tops_of_turns()
    lines = []
    for one in ones:
        line = [turns[sign * floor.pairing_of(one, other) % floor.order] for other in others]
        lines.append(line + [floor.tops_of(1 if one == at else 0)])
    return solved(floor, lines, len(others))
