"""Rows of which some items and some voices are known, and weights over these. Nothing is checked here.

A target is a dict of tops for all places: it stands for the sum of the items of a row, each times its tops.
"""

from ringvoices.solving import solved
from ringvoices.sums import levelled, turned_sum
from ringvoices.turns import lowered, multiplied
from ringvoices.within import bars_of, others_of, silent_lines


class Known:
    """Seen items and heard voices as tops over one bottom, with the places that are free: not seen."""

    def __init__(self, floor, seen, heard):
        tops, bottom = levelled([number for _, number in seen + heard])
        self.floor = floor
        self.places = [place for place, _ in seen]
        self.labels = [label for label, _ in heard]
        self.seen_tops = tops[:len(seen)]
        self.heard_tops = tops[len(seen):]
        self.bottom = bottom
        self.free = others_of(floor, self.places)


def _lessened(ones, others):
    return [one - other for one, other in zip(ones, others)]


def fitting_row(known):
    """A row with the known items and voices, None if there is none."""
    floor = known.floor
    lines = []
    for bar, tops, label in zip(bars_of(floor, known.free, known.labels), known.heard_tops, known.labels):
        lines.append(bar + [_lessened(tops, turned_sum(floor, known.seen_tops, known.places, label, 1))])
    found = solved(floor, lines, len(known.free))
    if found is None:
        return None
    laid = {place: lowered(tops, known.bottom) for place, tops in zip(known.places, known.seen_tops)}
    for place, (tops, under) in zip(known.free, found):
        laid[place] = lowered(tops, under * known.bottom)
    return tuple([laid[place] for place in floor.places])


def idle_lines(known):
    """A base of the rows with zeros in the place of all that is known: lines of tops at the free places."""
    return silent_lines(known.floor, known.free, known.labels)


def row_beside(known, row, line):
    """The row with a line of tops added at the free places."""
    laid = {place: tops for place, tops in zip(known.free, line)}
    found = []
    for place, (tops, under) in zip(known.floor.places, row):
        if place in laid:
            tops = [top + under * more for top, more in zip(tops, laid[place])]
        found.append(lowered(tops, under))
    return tuple(found)


def spanning_rows(known):
    """Rows that fit, which have in common what all that fit have in common; none if none fits."""
    row = fitting_row(known)
    if row is None:
        return []
    return [row] + [row_beside(known, row, line) for line in idle_lines(known)]


def product_sum(floor, ones, others):
    """The tops of the sum of the products of two lines of tops."""
    total = [0] * floor.degree
    for one, other in zip(ones, others):
        total = [top + more for top, more in zip(total, multiplied(one, other, floor.polynomial))]
    return total


def barring_weights(known):
    """Weights whose sum is 0 for each row, but not for what is known: a pair (ones, others). None if there are none."""
    floor = known.floor
    for line in silent_lines(floor, known.labels, known.free):
        ones = [_negative(turned_sum(floor, line, known.labels, place, 1)) for place in known.places]
        if any(product_sum(floor, ones + line, known.seen_tops + known.heard_tops)):
            return tuple([lowered(tops, 1) for tops in ones]), tuple([lowered(tops, 1) for tops in line])
    return None


def _negative(tops):
    return [-top for top in tops]


def target_weights(known, target):
    """Weights whose sum is the target for each row: a pair (ones, others). None if there are none."""
    floor = known.floor
    bars = bars_of(floor, known.labels, known.free)
    lines = [bar + [target[place]] for bar, place in zip(bars, known.free)]
    others = solved(floor, lines, len(known.labels))
    if others is None:
        return None
    items, bottom = levelled(others)
    ones = []
    for place in known.places:
        wanted = [top * bottom for top in target[place]]
        ones.append(lowered(_lessened(wanted, turned_sum(floor, items, known.labels, place, 1)), bottom))
    return tuple(ones), others


def is_target(known, ones, others, target):
    """Whether the sum of weights is the target for each row."""
    floor = known.floor
    items, bottom = levelled(ones + others)
    laid = {place: tops for place, tops in zip(known.places, items)}
    zero = floor.tops_of(0)
    for place in floor.places:
        heard = turned_sum(floor, items[len(ones):], known.labels, place, 1)
        if [one + other for one, other in zip(laid.get(place, zero), heard)] != [top * bottom for top in target[place]]:
            return False
    return True


def does_bar(known, ones, others):
    """Whether the sum of weights is not 0 for what is known."""
    items, _ = levelled(ones + others)
    return any(product_sum(known.floor, items, known.seen_tops + known.heard_tops))


def are_parted(floor, one, other, target):
    """Whether the target is unlike for two rows."""
    items, _ = levelled(one + other)
    many = len(floor.places)
    apart = [_lessened(tops, others) for tops, others in zip(items[:many], items[many:])]
    return any(product_sum(floor, apart, [target[place] for place in floor.places]))
