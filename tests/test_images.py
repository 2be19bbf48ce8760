"""Images of sums of turns: what they show of lines has to be so."""

import itertools
import random
import unittest

from ringvoices.images import (ALL, PRIME, ROOT, are_apart, are_seen_apart, first_image, image_of, image_steps,
                               turn_images)
from ringvoices.numbers import plus, ring_polynomial, times, turn
from tests.oracle import is_prime, random_number, rank, units, zero


class Images(unittest.TestCase):

    def test_the_prime(self):
        self.assertTrue(is_prime(PRIME))
        self.assertEqual(pow(ROOT, ALL, PRIME), 1)
        for p in (2, 3, 5, 7, 11, 13, 17, 19, 23, 29, 31, 37, 41, 43, 47, 53, 59):
            self.assertEqual(ALL % p, 0)
            self.assertNotEqual(pow(ROOT, ALL // p, PRIME), 1)

    def test_all_orders(self):
        for order in range(1, 61):
            self.assertEqual(ALL % order, 0)
            self.assertIs(are_seen_apart(order, [[ring_polynomial(order)]]), False)
            self.assertIs(are_seen_apart(order, [[(0,) * len(units(order))]]), False)
            for power in range(order):
                self.assertIs(are_seen_apart(order, [[turn(order, power)[0]]]), True)

    def test_lines(self):
        for order in (1, 2, 3, 4, 5, 6, 8, 12, 16):
            dice = random.Random(order)
            for many in (1, 2, 3, 4):
                lines = [[random_number(order, dice, 30, 0) for _ in range(4)] for _ in range(many)]
                factors = [random_number(order, dice, 30, 0) for _ in range(many)]
                last = [zero(order)] * 4
                for line, factor in zip(lines, factors):
                    last = [plus(order, one, times(order, factor, other)) for one, other in zip(last, line)]
                tops = [[item[0] for item in line] for line in lines]
                self.assertEqual(rank(order, lines), many)
                self.assertIs(are_seen_apart(order, tops), True)
                self.assertIs(are_seen_apart(order, tops + [[item[0] for item in last]]), False)

    def test_images(self):
        for order in range(1, 61):
            images, dice = turn_images(order), random.Random(order)
            self.assertEqual((len(images), len(set(images)), images[0]), (order, order, 1))
            self.assertEqual(pow(first_image(order), order, PRIME), 1)
            for power in range(order):
                self.assertEqual(image_of(first_image(order), turn(order, power)[0]), images[power])
            one, other = [random_number(order, dice, 20, 0) for _ in "ab"]
            found = [image_of(first_image(order), number[0]) for number in (one, other, plus(order, one, other))]
            self.assertEqual((found[0] + found[1] - found[2]) % PRIME, 0)
            if order <= 16:
                product = image_of(first_image(order), times(order, one, other)[0])
                self.assertEqual(found[0] * found[1] % PRIME, product)

    def test_norms_of_determinants(self):
        # Up to the size 8 no determinant of turns has a norm that the prime could divide, unless it is 0.
        for size in range(1, 9):
            for order in range(1, size + 1):
                # The loudness of a determinant of turns is at most its size to this size.
                self.assertTrue(size ** (size * len(units(order))) < PRIME ** 2)

    def test_steps(self):
        for many, width in itertools.product(range(5), range(1, 5)):
            dice = random.Random(f"{many} {width}")
            for _ in range(20):
                lines = [[dice.choice((0, 0, 1, PRIME - 1, 5)) for _ in range(width)] for _ in range(many)]
                kept = [list(line) for line in lines]
                steps = image_steps(lines)
                self.assertEqual(lines, kept)
                for at, step in steps:
                    self.assertTrue(step[at] != 0 and not any(step[:at]))
                self.assertEqual(len({at for at, _ in steps}), len(steps))
                self.assertEqual(len(steps), rank(1, [[((item,), 1) for item in self.centred(line)] for line in lines]))
                self.assertIs(are_apart(lines), len(steps) == many)

    def centred(self, line):
        return [item - PRIME if item > PRIME // 2 else item for item in line]

    def test_none(self):
        self.assertIs(are_apart([]), True)
        self.assertIs(are_apart([[]]), False)
        self.assertIs(are_seen_apart(5, []), True)
        self.assertIs(are_seen_apart(5, [[]]), False)


if __name__ == "__main__":
    unittest.main()
