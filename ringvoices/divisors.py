"""What divides a small integer, and what does not."""

from math import gcd


def units_of(order):
    """The integers from 1 to the order without a common divisor above 1 with it, 1 the first."""
    return [j for j in range(1, order + 1) if gcd(j, order) == 1]


def primes_of(number):
    """The primes that divide an integer from 1 on, ascending."""
    primes = []
    for k in range(2, number + 1):
        if number % k == 0 and all([k % prime != 0 for prime in primes]):
            primes.append(k)
    return primes
