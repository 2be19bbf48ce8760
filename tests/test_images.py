"""Images of sums of turns: what they show of lines has to be so."""

import random
import unittest

from ringvoices.images import ALL, PRIME, ROOT, are_seen_apart
from ringvoices.numbers import plus, ring_polynomial, times, turn
from tests.oracle import is_prime, random_number, rank, units, zero


class Images(unittest.TestCase):

    def test_the_prime(self):
        self.assertTrue(is_prime(PRIME))
        self.assertEqual(pow(ROOT, ALL, PRIME), 1)
        for p in (2, 3, 5, 7, 11, 13, 17, 19, 23, 29, 31, 37, 41, 43, 47, 53, 59):
            self.assertEqual(ALL % p, 0)
            self.assertNotEqual(pow(ROOT, ALL // p, PRIME), 1)

    def test_all_orders(self):
        for order in range(1, 61):
            self.assertEqual(ALL % order, 0)
            self.assertIs(are_seen_apart(order, [[ring_polynomial(order)]]), False)
            self.assertIs(are_seen_apart(order, [[(0,) * len(units(order))]]), False)
            for power in range(order):
                self.assertIs(are_seen_apart(order, [[turn(order, power)[0]]]), True)

    def test_lines(self):
        for order in (1, 2, 3, 4, 5, 6, 8, 12, 16):
            dice = random.Random(order)
            for many in (1, 2, 3, 4):
                lines = [[random_number(order, dice, 30, 0) for _ in range(4)] for _ in range(many)]
                factors = [random_number(order, dice, 30, 0) for _ in range(many)]
                last = [zero(order)] * 4
                for line, factor in zip(lines, factors):
                    last = [plus(order, one, times(order, factor, other)) for one, other in zip(last, line)]
                tops = [[item[0] for item in line] for line in lines]
                self.assertEqual(rank(order, lines), many)
                self.assertIs(are_seen_apart(order, tops), True)
                self.assertIs(are_seen_apart(order, tops + [[item[0] for item in last]]), False)

    def test_none(self):
        self.assertIs(are_seen_apart(5, []), True)
        self.assertIs(are_seen_apart(5, [[]]), False)


if __name__ == "__main__":
    unittest.main()
