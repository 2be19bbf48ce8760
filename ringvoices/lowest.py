"""How few voices sound if few places are filled; rows within lots of places and labels."""

from ringvoices.divisors import primes_of
from ringvoices.errors import BadCount
from ringvoices.floors import Floor
from ringvoices.images import are_seen_apart
from ringvoices.kinds import is_integer
from ringvoices.numbers import is_number
from ringvoices.rings import check_lot, is_place, size_of
from ringvoices.solving import stepped
from ringvoices.sums import levelled, turned_sum
from ringvoices.turns import lowered, multiplied
from ringvoices.voices import filled, is_row, sounding
from ringvoices.within import lines_within, mingled, others_of, row_with, weights_for


def check_count(rings, k):
    """Raises BadRings, then BadCount with what is no integer from 1 to the size."""
    size = size_of(rings)
    if not is_integer(k) or not 1 <= k <= size:
        raise BadCount(k)


def least(rings, k):
    """The fewest sounding voices of a row with at least one and at most k filled places."""
    check_count(rings, k)
    return min(_choices(size_of(rings), k))[0]


def _choices(size, k):
    """The tuples (how many voices sound, d, p, j) of the formula, j as great as can be."""
    found = []
    for prime in primes_of(size):
        for d in range(1, size // prime + 1):
            j = min(prime, k // d)
            if size % (d * prime) == 0 and j > 0:
                found.append((size // (d * prime) * (prime + 1 - j), d, prime, j))
    return found


def least_row(rings, k):
    """A row with at least one and at most k filled places, as few of whose voices sound as can be."""
    check_count(rings, k)
    floor = Floor(rings)
    _, d, prime, j = min(_choices(len(floor.places), k))
    parts = _parts(rings, d * prime)
    at = [ring for ring, part in enumerate(parts) if part % prime == 0][0]
    items = _few_items(floor, prime, j)
    row = []
    for place in floor.places:
        # The d p places of a subgroup; those that have the same item are d of it, and those moved by a place.
        steps = [place[ring] * part for ring, part in enumerate(parts)]
        within = all([steps[ring] % length == 0 for ring, length in enumerate(rings)])
        row.append(lowered(items[steps[at] // rings[at] % prime] if within else floor.tops_of(0), 1))
    return tuple(row)


def _parts(rings, size):
    """Divisors of the lengths whose product is the size, which divides that of the lengths."""
    found = []
    for length in rings:
        part = max([d for d in range(1, length + 1) if length % d == 0 and size % d == 0])
        found.append(part)
        size = size // part
    return found


def _few_items(floor, prime, j):
    """The items of a row on one ring of prime length: j of them are filled at most, and just j - 1 voices silent."""
    turns = floor.tops_of_turns()
    zero = floor.tops_of(0)
    # The product of all x - w to the power m, m below j, w being a turn that comes round after p steps.
    items = [floor.tops_of(1)]
    for m in range(1, j):
        taken = [multiplied(tops, turns[floor.order // prime * m], floor.polynomial) for tops in items]
        items = [_less(ones, others) for ones, others in zip([zero] + items, taken + [zero])]
    return items + [zero] * (prime - j)


def _less(ones, others):
    return [one - other for one, other in zip(ones, others)]


def room(rings, places, labels):
    """How many rows a base of the rows within places and labels has."""
    check_lot(rings, places)
    check_lot(rings, labels)
    return len(lines_within(Floor(rings), places, labels))


def base_of(rings, places, labels):
    """A base of the rows within places and labels."""
    check_lot(rings, places)
    check_lot(rings, labels)
    floor = Floor(rings)
    return tuple([row_with(floor, places, line) for line in lines_within(floor, places, labels)])


def is_base(rings, places, labels, thing):
    """Whether a thing is a base of the rows within places and labels."""
    many = room(rings, places, labels)
    if not isinstance(thing, tuple) or len(thing) != many:
        return False
    if not all([is_row(rings, row) and _is_within(rings, row, places, labels) for row in thing]):
        return False
    floor = Floor(rings)
    lines = [levelled(row)[0] for row in thing]
    # Steps of great integers would take long: mostly the images are enough.
    return are_seen_apart(floor.order, lines) or len(stepped(floor, lines)) == many


def _is_within(rings, row, places, labels):
    told = all([place in places for place in filled(rings, row)])
    return told and all([label in labels for label in sounding(rings, row)])


def judge_pair(rings, places, labels):
    """A row with just these filled places and sounding labels, or weights for one of them that never is."""
    check_lot(rings, places)
    check_lot(rings, labels)
    floor = Floor(rings)
    lines = lines_within(floor, places, labels)
    looks = [line + [turned_sum(floor, line, places, label, 1) for label in labels] for line in lines]
    total = mingled(looks, [floor.tops_of(0) for _ in places + labels])
    bare = [k for k, tops in enumerate(total) if not any(tops)]
    if bare == []:
        return "row", row_with(floor, places, total)
    if bare[0] < len(places):
        place = places[bare[0]]
        return "place", place, weights_for(floor, places, others_of(floor, labels), place, 1)
    label = labels[bare[0] - len(places)]
    return "label", label, weights_for(floor, labels, others_of(floor, places), label, -1)


def pair_holds(rings, places, labels, thing):
    """Whether a thing is a certificate of places and labels, as judge_pair gives one."""
    check_lot(rings, places)
    check_lot(rings, labels)
    if not isinstance(thing, tuple) or len(thing) not in (2, 3):
        return False
    if len(thing) == 2:
        word, row = thing
        return word == "row" and is_row(rings, row) and filled(rings, row) == places and sounding(rings, row) == labels
    word, at, weights = thing
    floor = Floor(rings)
    if word == "place":
        return _weigh(floor, places, others_of(floor, labels), at, 1, weights)
    return word == "label" and _weigh(floor, labels, others_of(floor, places), at, -1, weights)


def _weigh(floor, ones, others, at, sign, weights):
    """Whether a thing at is one of ones, and a thing weights are numbers as weights_for gives them."""
    if not is_place(floor.rings, at) or at not in ones:
        return False
    if not isinstance(weights, tuple) or len(weights) != len(others):
        return False
    if not all([is_number(floor.order, weight) for weight in weights]):
        return False
    items, bottom = levelled(weights)
    sums = [turned_sum(floor, items, others, one, sign) for one in ones]
    return sums == [floor.tops_of(bottom if one == at else 0) for one in ones]
