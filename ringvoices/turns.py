"""Reckoning with tops: integers that stand for a sum of powers of a turn. Nothing is checked here."""

from math import gcd

from ringvoices.divisors import primes_of, units_of


def polynomial_of(order):
    """The ring polynomial of an order, the integer of the power 0 first."""
    polynomial = [-1, 1]
    left = order
    for prime in primes_of(order):
        polynomial, _ = _divided(_stretched(polynomial, prime), polynomial)
        left = left // prime
    # A prime that divides the order again only spreads the powers.
    return tuple(_stretched(polynomial, left))


def _stretched(items, by):
    stretched = [0] * ((len(items) - 1) * by + 1)
    for k, item in enumerate(items):
        stretched[k * by] = item
    return stretched


def _divided(items, divisor):
    # The highest integer of the divisor is 1: everything stays whole.
    degree = len(divisor) - 1
    rest = list(items)
    quotient = []
    while len(rest) > degree:
        highest = rest.pop()
        quotient.append(highest)
        at = len(rest) - degree
        for k in range(degree):
            rest[at + k] -= highest * divisor[k]
    return quotient[::-1], rest


def reduced(items, polynomial):
    """The tops of a sum of powers of the turn, whatever the highest power is."""
    _, rest = _divided(items, polynomial)
    return tuple(rest + [0] * (len(polynomial) - 1 - len(rest)))


def multiplied(ones, others, polynomial):
    """The tops of the product of two sums of powers of the turn."""
    total = [0] * (len(ones) + len(others) - 1)
    for i, one in enumerate(ones):
        for k, other in enumerate(others):
            total[i + k] += one * other
    return reduced(total, polynomial)


def spread(tops, many, step):
    """The items of a sum in which the turn to the power of step stands for the turn, many steps coming round."""
    items = [0] * many
    for k, top in enumerate(tops):
        items[k * step % many] += top
    return items


def exchanged_tops(tops, order, j, polynomial):
    """The tops in which the turn to the power j stands for the turn."""
    return reduced(spread(tops, order, j), polynomial)


def completed(tops, order, polynomial):
    """The product of all but the first that tops are exchanged to, and the integer that comes of tops times it."""
    others = reduced([1], polynomial)
    for j in units_of(order)[1:]:
        others = multiplied(others, exchanged_tops(tops, order, j, polynomial), polynomial)
    return others, multiplied(tops, others, polynomial)[0]


def lowered(tops, bottom):
    """The tops and the bottom, above 0, without a common divisor above 1."""
    common = abs(bottom)
    for top in tops:
        common = gcd(common, top)
    if bottom < 0:
        common = -common
    return tuple([top // common for top in tops]), bottom // common
