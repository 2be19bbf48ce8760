"""Numbers of turns: whole sums of powers of a turn over a whole number."""

from math import gcd

from ringvoices.divisors import units_of
from ringvoices.errors import BadCount, BadItems, BadNumber, BadOrder, Nought
from ringvoices.kinds import is_integer, is_integers
from ringvoices.turns import completed, exchanged_tops, lowered, multiplied, polynomial_of, reduced, spread

MOST_ORDER = 60
MOST_ITEMS = 60


def is_order(thing):
    """Whether a thing is an order."""
    return is_integer(thing) and 1 <= thing <= MOST_ORDER


def check_order(order):
    """Raises BadOrder with what is no order."""
    if not is_order(order):
        raise BadOrder(order)


def check_number(order, number):
    """Raises BadOrder, then BadNumber, with what is none."""
    if not is_number(order, number):
        raise BadNumber(number)


def ring_polynomial(order):
    """The integers of the ring polynomial, that of the power 0 first."""
    check_order(order)
    return polynomial_of(order)


def is_number(order, thing):
    """Whether a thing is a number of the order."""
    check_order(order)
    if not isinstance(thing, tuple) or len(thing) != 2:
        return False
    tops, bottom = thing
    if not is_integers(tops) or not is_integer(bottom) or bottom < 1:
        return False
    # The ring polynomial has as many powers below its highest as there are units.
    return len(tops) == len(units_of(order)) and lowered(tops, bottom) == thing


def number_of(order, items, bottom):
    """The number that is the sum of items[i] times z to the power i, divided by bottom."""
    check_order(order)
    if not is_integers(items) or len(items) > MOST_ITEMS:
        raise BadItems(items)
    if not is_integer(bottom) or bottom == 0:
        raise BadCount(bottom)
    return lowered(reduced(items, polynomial_of(order)), bottom)


def turn(order, power):
    """The first turn to a power: any integer."""
    check_order(order)
    return reduced([0] * (power % order) + [1], polynomial_of(order)), 1


def plus(order, one, other):
    """The sum of two numbers."""
    check_number(order, one)
    check_number(order, other)
    return _sum(one, other, 1)


def minus(order, one, other):
    """The first number less the second one."""
    check_number(order, one)
    check_number(order, other)
    return _sum(one, other, -1)


def _sum(one, other, sign):
    ones, bottom = one
    others, other_bottom = other
    tops = [ones[k] * other_bottom + sign * others[k] * bottom for k in range(len(ones))]
    return lowered(tops, bottom * other_bottom)


def times(order, one, other):
    """The product of two numbers."""
    check_number(order, one)
    check_number(order, other)
    return _product(order, one, other)


def _product(order, one, other):
    ones, bottom = one
    others, other_bottom = other
    return lowered(multiplied(ones, others, polynomial_of(order)), bottom * other_bottom)


def inverse(order, number):
    """The number whose product with a number is 1."""
    check_number(order, number)
    tops, bottom = number
    others, whole = completed(tops, order, polynomial_of(order))
    if whole == 0:
        raise Nought()
    return lowered([bottom * other for other in others], whole)


def exchanged(order, number, j):
    """The number in which z to the power j stands for z."""
    check_number(order, number)
    if not is_integer(j) or gcd(j, order) != 1:
        raise BadCount(j)
    tops, bottom = number
    # An exchange can be taken back: nothing above 1 divides what it gives.
    return exchanged_tops(tops, order, j, polynomial_of(order)), bottom


def norm(order, number):
    """The fraction that is the product of all that a number is exchanged to."""
    check_number(order, number)
    tops, bottom = number
    _, whole = completed(tops, order, polynomial_of(order))
    return _fraction(whole, _own_product(bottom, len(tops)))


def _own_product(factor, many):
    total = 1
    for _ in range(many):
        total = total * factor
    return total


def _fraction(top, bottom):
    tops, under = lowered((top,), bottom)
    return tops[0], under


def trace(order, number):
    """The fraction that is the sum of all that a number is exchanged to."""
    check_number(order, number)
    tops, bottom = number
    polynomial = polynomial_of(order)
    total = 0
    for j in units_of(order):
        total += exchanged_tops(tops, order, j, polynomial)[0]
    return _fraction(total, bottom)


def loudness(order, number):
    """The product of a number with itself turned about."""
    check_number(order, number)
    tops, bottom = number
    return _product(order, number, (exchanged_tops(tops, order, -1, polynomial_of(order)), bottom))


def lifted(order, number, other):
    """The number of the order other that a number is; the order divides other."""
    check_number(order, number)
    if not is_order(other) or other % order != 0:
        raise BadOrder(other)
    tops, bottom = number
    return lowered(reduced(spread(tops, other, other // order), polynomial_of(other)), bottom)
