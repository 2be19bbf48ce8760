"""Reckoning with tops: integers that stand for a sum of powers of a turn. Nothing is checked here."""

from math import gcd


def polynomial_of(order):
    """The ring polynomial of an order, the integer of the power 0 first."""
    polynomial = [-1, 1]
    left = order
    for prime in _primes_of(order):
        polynomial, _ = _divided(_stretched(polynomial, prime), polynomial)
        left = left // prime
    # A prime that divides the order again only spreads the powers.
    return tuple(_stretched(polynomial, left))


def _primes_of(order):
    primes = []
    for k in range(2, order + 1):
        if order % k == 0 and all([k % prime != 0 for prime in primes]):
            primes.append(k)
    return primes


def _stretched(items, by):
    stretched = [0] * ((len(items) - 1) * by + 1)
    for k, item in enumerate(items):
        stretched[k * by] = item
    return stretched


def _divided(items, divisor):
    # The highest integer of the divisor is 1: everything stays whole.
    degree = len(divisor) - 1
    rest = list(items)
    quotient = []
    while len(rest) > degree:
        highest = rest.pop()
        quotient.append(highest)
        at = len(rest) - degree
        for k in range(degree):
            rest[at + k] -= highest * divisor[k]
    return quotient[::-1], rest


def reduced(items, polynomial):
    """The tops of a sum of powers of the turn, whatever the highest power is."""
    _, rest = _divided(items, polynomial)
    return tuple(rest + [0] * (len(polynomial) - 1 - len(rest)))


def multiplied(ones, others, polynomial):
    """The tops of the product of two sums of powers of the turn."""
    total = [0] * (len(ones) + len(others) - 1)
    for i, one in enumerate(ones):
        for k, other in enumerate(others):
            total[i + k] += one * other
    return reduced(total, polynomial)


def spread(tops, many, step):
    """The items of a sum in which the turn to the power of step stands for the turn, many steps coming round."""
    items = [0] * many
    for k, top in enumerate(tops):
        items[k * step % many] += top
    return items


def lowered(tops, bottom):
    """The tops and the bottom, above 0, without a common divisor above 1."""
    common = abs(bottom)
    for top in tops:
        common = gcd(common, top)
    if bottom < 0:
        common = -common
    return tuple([top // common for top in tops]), bottom // common
