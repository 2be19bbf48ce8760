"""Other ways to tell what the package tells: images modulo one great prime, and slow reckoning with numbers."""

import functools
import itertools
import math
import random

from ringvoices.numbers import inverse, minus, number_of, times, turn
from ringvoices.rings import all_places, order_of, size_of

ALL = math.lcm(*range(1, 61))


def is_prime(n):
    """A test for odd numbers that lets no other ones through that matter here."""
    twos = ((n - 1) & (1 - n)).bit_length() - 1
    for base in (2, 3, 5, 7, 11, 13, 17, 19, 23, 29, 31, 37, 41, 43):
        powers_of_base = [pow(base, (n - 1) >> twos << k, n) for k in range(twos)]
        if powers_of_base[0] != 1 and n - 1 not in powers_of_base:
            return False
    return True


# All turns of orders up to 60 have images here that can be told from one another.
PRIME = next(k * ALL + 1 for k in itertools.count(1) if is_prime(k * ALL + 1))
FIRST = next(root for root in (pow(base, (PRIME - 1) // ALL, PRIME) for base in itertools.count(2))
             if all(pow(root, ALL // p, PRIME) != 1 for p in (2, 3, 5, 7, 11, 13, 17, 19, 23, 29, 31, 37, 41, 43, 47,
                                                              53, 59)))


def units(order):
    return [j for j in range(1, order + 1) if math.gcd(j, order) == 1]


@functools.lru_cache(maxsize=None)
def powers(order, j):
    root = pow(FIRST, ALL // order * j, PRIME)
    return [pow(root, i, PRIME) for i in range(60)]


def image(order, items, bottom, j=1):
    """What the sum of items[i] times z to the power i, divided by bottom, is modulo the prime, z exchanged by j."""
    known = powers(order, j % order)
    return sum(item * known[i] for i, item in enumerate(items)) * pow(bottom, -1, PRIME) % PRIME


def images(order, number):
    return [image(order, *number, j) for j in units(order)]


def turn_image(order, power, j=1):
    return powers(order, j % order)[power % order]


def pair(rings, place, label):
    """The pairing, as the document tells it."""
    order = math.lcm(*rings)
    return sum(a * b * order // length for a, b, length in zip(place, label, rings)) % order


def row_images(rings, row, j=1):
    return [image(order_of(rings), *item, j) for item in row]


def voice_images(rings, row, j=1):
    """The images of the voices of a row, all reckoned with images."""
    order, places, items = order_of(rings), all_places(rings), row_images(rings, row, j)
    return [sum(item * turn_image(order, pair(rings, place, label), j) for item, place in zip(items, places)) % PRIME
            for label in places]


def zero(order):
    return (0,) * len(units(order)), 1


def whole(order, top):
    return (top,) + (0,) * (len(units(order)) - 1), 1


def fraction(order, top, bottom):
    """The pair (top, bottom) as a number."""
    return (top,) + (0,) * (len(units(order)) - 1), bottom


def is_strict_number(order, thing):
    if type(thing) is not tuple or len(thing) != 2 or type(thing[0]) is not tuple or type(thing[1]) is not int:
        return False
    if len(thing[0]) != len(units(order)) or any(type(top) is not int for top in thing[0]):
        return False
    return thing[1] > 0 and math.gcd(*thing[0], thing[1]) == 1


def is_strict_row(rings, thing):
    if type(thing) is not tuple or len(thing) != math.prod(rings):
        return False
    return all(is_strict_number(math.lcm(*rings), item) for item in thing)


def is_strict_place(rings, thing):
    if type(thing) is not tuple or len(thing) != len(rings) or any(type(item) is not int for item in thing):
        return False
    return all(0 <= item < length for item, length in zip(thing, rings))


def random_number(order, dice, digits=3, bottom_digits=2):
    most = 10 ** digits
    items = tuple(dice.randrange(-most, most + 1) for _ in units(order))
    return number_of(order, items, dice.randrange(1, 10 ** bottom_digits + 1))


def some_rows(rings, many=2, digits=12):
    """Rows of each sort: zeros, one item, integers, fractions, numbers of the order, great ones."""
    order, size = order_of(rings), size_of(rings)
    dice = random.Random(f"{rings} {many} {digits}")
    nil, one, most = zero(order), whole(order, 1), 10 ** digits - 1
    found = [(nil,) * size, (one,) + (nil,) * (size - 1), (nil,) * (size - 1) + (turn(order, 1),), (one,) * size,
             tuple(whole(order, dice.randrange(-9, 10)) for _ in range(size)),
             tuple(number_of(order, (dice.randrange(-9, 10),), dice.randrange(1, 9)) for _ in range(size)),
             tuple(whole(order, dice.choice((-most, most, 0, 1))) for _ in range(size))]
    for _ in range(many):
        found.append(tuple(dice.choice((nil, one, turn(order, 1), turn(order, -1))) for _ in range(size)))
        found.append(tuple(random_number(order, dice) for _ in range(size)))
        found.append(tuple(random_number(order, dice, digits, digits // 2) for _ in range(size)))
    return found


def rank(order, lines):
    """How many of some lines of numbers do not come of others, by plain steps with numbers."""
    lines, found = [list(line) for line in lines], 0
    for at in range(len(lines[0]) if lines else 0):
        first = next((line for line in lines if line[at] != zero(order)), None)
        if first is not None:
            lines.remove(first)
            found += 1
            back = inverse(order, first[at])
            for line in lines:
                factor = times(order, line[at], back)
                line[:] = [minus(order, one, times(order, factor, other)) for one, other in zip(line, first)]
    return found


def slow_solutions(order, lines, many):
    """Solutions, each of so many numbers, of lines that end in their sums: one, and one more for each free number.

    They have in common what all solutions have in common. By plain steps with numbers; none if there is none.
    """
    lines, steps = [list(line) for line in lines], {}
    for at in range(many):
        first = next((line for line in lines if line[at] != zero(order)), None)
        if first is not None:
            lines.remove(first)
            back = inverse(order, first[at])
            first = [times(order, one, back) for one in first]
            for line in [*lines, *steps.values()]:
                factor = line[at]
                line[:] = [minus(order, one, times(order, factor, other)) for one, other in zip(line, first)]
            steps[at] = first
    if any(line[many] != zero(order) for line in lines):
        return []
    found = []
    for free in [None] + [at for at in range(many) if at not in steps]:
        extra = zero(order) if free is None else whole(order, 1)
        items = {free: extra} if free is not None else {}
        for at, step in steps.items():
            items[at] = step[many] if free is None else minus(order, step[many], times(order, step[free], extra))
        found.append(tuple(items.get(at, zero(order)) for at in range(many)))
    return found


def slow_room(rings, places, labels):
    """The room, by the voices that have to be silent."""
    order = order_of(rings)
    silent = [label for label in all_places(rings) if label not in labels]
    return len(places) - rank(order, [[turn(order, pair(rings, place, label)) for place in places]
                                      for label in silent])


def changed(thing):
    """A thing with one part of it, or all of it, changed in many ways."""
    found = [None, (), [], "", 0, 1, True, False, {}, (thing,), [thing]]
    if type(thing) is tuple:
        found += [list(thing), thing + (0,), thing + thing[-1:], thing[:-1], thing[1:], thing[::-1], {0: thing}]
        found += [thing[:k] + (thing[k + 1], thing[k]) + thing[k + 2:] for k in range(len(thing) - 1)]
        for k, part in enumerate(thing):
            found += [thing[:k] + (other,) + thing[k + 1:] for other in changed(part)]
    elif type(thing) is int:
        found += [thing + 1, thing - 1, -thing, 2 * thing, float(thing) if abs(thing) < 99 else None, str(thing),
                  10 ** 99]
        found += [bool(thing)] if thing in (0, 1) else []
    elif type(thing) is str:
        found += [thing + " ", thing[:-1], thing.upper(), "undone", "silent", "voice", "row", "place", "label"]
    return found
