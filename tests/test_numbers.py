"""Numbers of turns, against their images modulo one prime at which all turns can be told."""

import itertools
import math
import random
import unittest

from ringvoices.errors import BadCount, BadItems, BadNumber, BadOrder, Nought
from ringvoices.numbers import (exchanged, inverse, is_number, lifted, loudness, minus, norm, number_of, plus,
                                ring_polynomial, times, trace, turn)
from tests.checking import (NOT_INTEGERS, NOT_NUMBERS, NOT_ORDERS, NOTHINGS, assert_raises, check_wrongs, same)
from tests.oracle import ALL, FIRST, PRIME, fraction, image, images, units, whole, zero

ORDERS = range(1, 61)
SMALL_ORDERS = range(1, 17)


def some_numbers(order, many=4, digits=6):
    dice = random.Random(order * 1000 + many)
    most = 10 ** digits
    found = [zero(order), whole(order, 1), whole(order, -2), turn(order, 1), turn(order, -1)]
    for _ in range(many):
        items = tuple(dice.randrange(-most, most) for _ in range(order))
        found.append(number_of(order, items, dice.randrange(1, most)))
        found.append(number_of(order, tuple(item % 3 - 1 for item in items), dice.choice([1, 2, 3, 6])))
    return found


class Polynomials(unittest.TestCase):

    def multiplied(self, ones, others):
        total = [0] * (len(ones) + len(others) - 1)
        for i, one in enumerate(ones):
            for k, other in enumerate(others):
                total[i + k] += one * other
        return total

    def test_their_product(self):
        for order in ORDERS:
            total = [1]
            for part in ORDERS:
                if order % part == 0:
                    total = self.multiplied(total, ring_polynomial(part))
            self.assertEqual(total, [-1] + [0] * (order - 1) + [1], order)

    def test_their_form(self):
        for order in ORDERS:
            found = ring_polynomial(order)
            self.assertIsInstance(found, tuple)
            self.assertTrue(all(type(item) is int for item in found))
            self.assertEqual((len(found) - 1, found[-1]), (len(units(order)), 1))
            self.assertEqual(image(order, found, 1), 0)

    def test_by_hand(self):
        known = {1: (-1, 1), 2: (1, 1), 3: (1, 1, 1), 4: (1, 0, 1), 6: (1, -1, 1), 8: (1, 0, 0, 0, 1),
                 9: (1, 0, 0, 1, 0, 0, 1), 12: (1, 0, -1, 0, 1), 59: (1,) * 59,
                 60: (1, 0, 1, 0, 0, 0, -1, 0, -1, 0, -1, 0, 0, 0, 1, 0, 1)}
        for order, polynomial in known.items():
            self.assertTrue(same(ring_polynomial(order), polynomial))


class IsNumber(unittest.TestCase):

    def test_numbers(self):
        for order in ORDERS:
            for number in [zero(order), whole(order, 5), whole(order, -10 ** 39), turn(order, 7)]:
                self.assertIs(is_number(order, number), True)
            tops = number_of(order, tuple(range(3, 3 + order)), 1)[0]
            self.assertIs(is_number(order, (tops, 1)), True)
            self.assertIs(is_number(order, (tops + (1,), 1)), False)
            self.assertIs(is_number(order, (tops[1:], 1)), False)
            self.assertIs(is_number(order, ((1,) * len(tops), 10 ** 39)), True)

    def test_lowered(self):
        for order in ORDERS:
            many = len(units(order))
            self.assertIs(is_number(order, ((0,) * many, 2)), False)
            self.assertIs(is_number(order, ((6,) * many, 4)), False)
            self.assertIs(is_number(order, ((6,) * many, 5)), True)
            self.assertIs(is_number(order, ((-6,) * many, 9)), False)
            self.assertIs(is_number(order, ((6,) * (many - 1) + (7,), 6)), many > 1 or math.gcd(7, 6) == 1)
            self.assertIs(is_number(order, ((1,) * many, 0)), False)
            self.assertIs(is_number(order, ((1,) * many, -1)), False)

    def test_any_value(self):
        for thing in NOT_NUMBERS:
            self.assertIs(is_number(4, thing), False, thing)
            self.assertIs(is_number(order=4, thing=thing), False, thing)
        for order in [1, 2, 3, 16, 60]:
            for thing in NOTHINGS:
                self.assertIs(is_number(order, thing), False, thing)
        for thing in [((True,), 1), ((1,), True), ((False,), 1), ([1], 1), [(1,), 1], (1, 1), ((1, 0), 1)]:
            self.assertIs(is_number(1, thing), False, thing)
            self.assertIs(is_number(2, thing), False, thing)

    def test_wrong_orders(self):
        for order in NOT_ORDERS:
            for thing in [((1, 1), 1), None, [1]]:
                assert_raises(self, BadOrder, "thing", order, lambda: is_number(order, thing))


class NumberOf(unittest.TestCase):

    def check(self, order, items, bottom):
        number = number_of(order, items, bottom)
        self.assertIs(is_number(order, number), True)
        for j in units(order)[:6]:
            self.assertEqual(image(order, *number, j), image(order, items, bottom, j))

    def test_all_lengths(self):
        dice = random.Random(2)
        for order in [1, 2, 3, 4, 6, 7, 12, 16, 30, 45, 59, 60]:
            for many in [0, 1, 2, 3, order - 1, order, 59, 60]:
                items = tuple(dice.randrange(-10 ** 30, 10 ** 30) for _ in range(many))
                for bottom in [1, -1, 12, -30, 10 ** 30 - 1, 1 - 10 ** 30]:
                    self.check(order, items, bottom)

    def test_small_ones(self):
        for order in ORDERS:
            for items in [(0,), (1, -1), (2, 4, 6), (6,) * 60, tuple(range(60)), (0,) * 60, (0,) * 59 + (1,)]:
                for bottom in [1, 2, -6, 7]:
                    self.check(order, items, bottom)

    def test_by_hand(self):
        self.assertEqual([number_of(1, (1, 2, 3), -4), number_of(2, (1, 2, 3), -4), number_of(2, (5,), -1)],
                         [((-3,), 2), ((-1,), 2), ((-5,), 1)])
        self.assertEqual([number_of(4, (1, 2, 3, 4), 6), number_of(6, (0, 0, 3), 9), number_of(3, (), 7)],
                         [((-1, -1), 3), ((-1, 1), 3), ((0, 0), 1)])
        self.assertEqual([number_of(5, (1, 1, 1, 1, 1), 3), number_of(16, (0,) * 60, -5)], [zero(5), zero(16)])
        for order in ORDERS:
            self.assertTrue(same(number_of(order, (), -9), zero(order)))

    def test_turned_round(self):
        for order in ORDERS:
            for k in range(60):
                self.assertTrue(same(number_of(order, (0,) * k + (1,), 1), turn(order, k)))


class Turns(unittest.TestCase):

    def test_all_of_them(self):
        for order in ORDERS:
            found = [turn(order, power) for power in range(order)]
            self.assertEqual(len(set(found)), order)
            self.assertTrue(same(found[0], whole(order, 1)))
            for power, number in enumerate(found):
                self.assertIs(is_number(order, number), True)
                self.assertEqual(image(order, *number), pow(FIRST, ALL // order * power, PRIME))
                for round_ in [-1, 1, 10 ** 60, -10 ** 60]:
                    self.assertTrue(same(turn(order, power + round_ * order), number))

    def test_by_hand(self):
        self.assertEqual([turn(1, 0), turn(1, 5), turn(1, -1), turn(2, 1), turn(2, -4), turn(3, 2), turn(4, -1)],
                         [((1,), 1), ((1,), 1), ((1,), 1), ((-1,), 1), ((1,), 1), ((-1, -1), 1), ((0, -1), 1)])


class Sums(unittest.TestCase):

    def test_sums(self):
        for order in [*SMALL_ORDERS, 24, 30, 45, 59, 60]:
            numbers = [(number, images(order, number)) for number in some_numbers(order, 2, 40)]
            for (one, one_images), (other, other_images) in itertools.product(numbers, repeat=2):
                added, less = plus(order, one, other), minus(order, one, other)
                self.assertTrue(is_number(order, added) and is_number(order, less))
                self.assertEqual(images(order, added), [(a + b) % PRIME for a, b in zip(one_images, other_images)])
                self.assertEqual(plus(order, less, other), one)

    def test_laws(self):
        for order in ORDERS:
            for number in some_numbers(order):
                self.assertTrue(same(plus(order, number, zero(order)), number))
                self.assertTrue(same(minus(order, number, number), zero(order)))
                self.assertTrue(same(minus(order, number, zero(order)), number))

    def test_by_hand(self):
        self.assertEqual([plus(1, ((1,), 2), ((1,), 2)), minus(2, ((1,), 6), ((1,), 2)), plus(4, ((1, 2), 3), ((2, 1), 3))],
                         [((1,), 1), ((-1,), 3), ((1, 1), 1)])
        self.assertEqual([plus(6, ((1, 0), 2), ((0, 1), 3)), minus(3, ((1, 1), 4), ((1, -1), 4))],
                         [((3, 2), 6), ((0, 1), 2)])


class Products(unittest.TestCase):

    def test_products(self):
        for order in [*SMALL_ORDERS, 24, 60]:
            numbers = some_numbers(order, 2, 40)
            for one, other in itertools.product(numbers, repeat=2):
                found = times(order, one, other)
                self.assertTrue(is_number(order, found))
                self.assertEqual(images(order, found),
                                 [a * b % PRIME for a, b in zip(images(order, one), images(order, other))])

    def test_laws(self):
        for order in SMALL_ORDERS:
            one, other, third = some_numbers(order)[-3:]
            self.assertEqual(times(order, one, other), times(order, other, one))
            self.assertEqual(times(order, one, plus(order, other, third)),
                             plus(order, times(order, one, other), times(order, one, third)))
            self.assertTrue(same(times(order, one, zero(order)), zero(order)))
            self.assertTrue(same(times(order, one, whole(order, 1)), one))
            for i, k in itertools.product(range(order), repeat=2):
                self.assertEqual(times(order, turn(order, i), turn(order, k)), turn(order, i + k))

    def test_by_hand(self):
        self.assertEqual([times(1, ((2,), 3), ((3,), 4)), times(2, ((-2,), 3), ((3,), 2)), times(3, ((1, 1), 2), ((2, 0), 1))],
                         [((1,), 2), ((-1,), 1), ((1, 1), 1)])
        self.assertEqual([times(4, ((1, 2), 3), ((3, 4), 5)), times(6, ((0, 1), 1), ((0, 1), 1))],
                         [((-1, 2), 3), ((-1, 1), 1)])

    def test_inverses(self):
        for order in SMALL_ORDERS:
            for number in some_numbers(order, 3) + some_numbers(order, 2, 40):
                if number != zero(order):
                    found = inverse(order, number)
                    self.assertTrue(is_number(order, found))
                    self.assertTrue(same(times(order, found, number), whole(order, 1)))
                    self.assertEqual(inverse(order, found), number)
            for power in range(order):
                self.assertEqual(inverse(order, turn(order, power)), turn(order, -power))

    def test_inverses_by_hand(self):
        self.assertEqual([inverse(1, ((-2,), 3)), inverse(2, ((5,), 1)), inverse(3, ((2, 1), 1)), inverse(4, ((0, 2), 3))],
                         [((-3,), 2), ((1,), 5), ((1, -1), 3), ((0, -3), 2)])

    def test_zero_has_none(self):
        for order in SMALL_ORDERS:
            with self.assertRaises(Nought) as caught:
                inverse(order, zero(order))
            self.assertIs(caught.exception.__class__, Nought)
            self.assertEqual(vars(caught.exception), {})


class Exchanges(unittest.TestCase):

    def test_images(self):
        for order in ORDERS:
            for number in some_numbers(order, 1, 40):
                for j in [1, -1, order - 1 if order > 1 else 1, order + 1, *units(order)[:3], -10 ** 40 * order + 1]:
                    found = exchanged(order, number, j)
                    self.assertTrue(is_number(order, found))
                    for k in units(order)[:4]:
                        self.assertEqual(image(order, *found, k), image(order, *number, j * k % order))

    def test_sums_and_products(self):
        for order in SMALL_ORDERS:
            numbers = some_numbers(order, 1)
            for one, other in itertools.product(numbers, repeat=2):
                for j in units(order):
                    led, other_led = exchanged(order, one, j), exchanged(order, other, j)
                    self.assertEqual(exchanged(order, plus(order, one, other), j), plus(order, led, other_led))
                    self.assertEqual(exchanged(order, times(order, one, other), j), times(order, led, other_led))

    def test_one_after_another(self):
        for order in ORDERS:
            number = some_numbers(order, 1)[-1]
            self.assertTrue(same(exchanged(order, number, 1), number))
            self.assertTrue(same(exchanged(order, exchanged(order, number, -1), -1), number))
            for j in units(order)[-2:]:
                self.assertEqual(exchanged(order, exchanged(order, number, j), 1 - order), exchanged(order, number, j))
                self.assertEqual(exchanged(order, turn(order, 1), j), turn(order, j))
                self.assertEqual(exchanged(order, number, j - 3 * order), exchanged(order, number, j))
            self.assertEqual(exchanged(order, whole(order, 7), -1), whole(order, 7))

    def test_wrong_ones(self):
        for order in ORDERS:
            for j in range(-order, 2 * order + 1):
                if math.gcd(j, order) != 1:
                    assert_raises(self, BadCount, "thing", j, lambda: exchanged(order, turn(order, 1), j))
                else:
                    self.assertEqual(exchanged(order, turn(order, 1), j), turn(order, j))
        for j in [0, 5, -5, 10 ** 50]:
            self.assertEqual(exchanged(1, ((3,), 2), j), ((3,), 2))
        for order, j in [(1, True), (1, False), (2, True), (4, True), (3, 10 ** 50 * 3)]:
            assert_raises(self, BadCount, "thing", j, lambda: exchanged(order, turn(order, 1), j))


class NormsAndTraces(unittest.TestCase):

    def test_products_and_sums(self):
        for order in [*SMALL_ORDERS, 24, 60]:
            for number in some_numbers(order, 1) + some_numbers(order, 1, 40):
                product, total = whole(order, 1), zero(order)
                for j in units(order):
                    product = times(order, product, exchanged(order, number, j))
                    total = plus(order, total, exchanged(order, number, j))
                self.assertTrue(same(fraction(order, *norm(order, number)), product))
                self.assertTrue(same(fraction(order, *trace(order, number)), total))

    def test_traces_of_all_orders(self):
        for order in ORDERS:
            for number in some_numbers(order, 1, 40):
                top, bottom = trace(order, number)
                self.assertTrue(bottom > 0 and math.gcd(top, bottom) == 1)
                self.assertEqual(sum(images(order, number)) % PRIME, top * pow(bottom, -1, PRIME) % PRIME)

    def test_laws(self):
        for order in SMALL_ORDERS:
            one, other = some_numbers(order)[-2:]
            (top, bottom), (other_top, other_bottom) = norm(order, one), norm(order, other)
            led_top, led_bottom = norm(order, times(order, one, other))
            self.assertEqual(top * other_top * led_bottom, led_top * bottom * other_bottom)
            for j in units(order):
                self.assertEqual(norm(order, exchanged(order, one, j)), (top, bottom))
                self.assertEqual(trace(order, exchanged(order, one, j)), trace(order, one))

    def test_zero_just_if_the_norm_is(self):
        for order in SMALL_ORDERS:
            self.assertTrue(same(norm(order, zero(order)), (0, 1)))
            self.assertTrue(same(trace(order, zero(order)), (0, 1)))
            for number in some_numbers(order):
                self.assertEqual(norm(order, number) == (0, 1), number == zero(order))

    def test_by_hand(self):
        self.assertEqual([norm(1, ((-4,), 3)), trace(1, ((-4,), 3)), norm(2, ((-4,), 3)), trace(2, ((5,), 2))],
                         [(-4, 3), (-4, 3), (-4, 3), (5, 2)])
        self.assertEqual([norm(4, ((1, 1), 2)), trace(4, ((1, 1), 2)), norm(3, ((2, 0), 1)), trace(6, ((0, 1), 1))],
                         [(1, 2), (1, 1), (4, 1), (1, 1)])
        for p in [2, 3, 5, 7, 11, 13]:
            self.assertEqual(norm(p, minus(p, turn(p, 0), turn(p, 1))), (p, 1))
            self.assertEqual(trace(p, turn(p, 1)), (-1, 1))
            self.assertEqual(trace(p, whole(p, 1)), (p - 1, 1))

    def test_loudness(self):
        for order in SMALL_ORDERS:
            for number in some_numbers(order) + some_numbers(order, 2, 40):
                found = loudness(order, number)
                self.assertTrue(same(found, times(order, number, exchanged(order, number, -1))))
                self.assertEqual(exchanged(order, found, -1), found)
                self.assertEqual(found == zero(order), number == zero(order))
            for power in range(order):
                self.assertTrue(same(loudness(order, turn(order, power)), whole(order, 1)))
        self.assertEqual([loudness(1, ((-3,), 2)), loudness(2, ((-3,), 2)), loudness(4, ((1, 2), 5)),
                          loudness(5, number_of(5, (1, 1), 1))],
                         [((9,), 4), ((9,), 4), ((1, 0), 5), ((1, 0, -1, -1), 1)])


class Lifts(unittest.TestCase):

    def test_images(self):
        for order in ORDERS:
            for other in range(order, 61, order):
                for number in some_numbers(order, 1, 40)[3:]:
                    found = lifted(order, number, other)
                    self.assertTrue(is_number(other, found))
                    for j in units(other)[:4]:
                        self.assertEqual(image(other, *found, j), image(order, *number, j))
                self.assertEqual(lifted(order, turn(order, 1), other), turn(other, other // order))
            self.assertTrue(same(lifted(order, number, order), number))

    def test_sums_and_products(self):
        for order in SMALL_ORDERS:
            for other in range(order, 17, order):
                for one, two in itertools.product(some_numbers(order, 1), repeat=2):
                    led, two_led = lifted(order, one, other), lifted(order, two, other)
                    self.assertEqual(lifted(order, plus(order, one, two), other), plus(other, led, two_led))
                    self.assertEqual(lifted(order, times(order, one, two), other), times(other, led, two_led))

    def test_by_hand(self):
        self.assertEqual([lifted(1, ((2,), 3), 60), lifted(2, ((2,), 3), 4), lifted(3, ((1, 2), 3), 6)],
                         [((2,) + (0,) * 15, 3), ((2, 0), 3), ((-1, 2), 3)])
        self.assertEqual([lifted(1, ((-7,), 2), 1), lifted(4, ((1, 3), 2), 8)], [((-7,), 2), ((1, 0, 3, 0), 2)])

    def test_wrong_orders(self):
        for order in ORDERS:
            for other in range(-60, 121):
                if other < 1 or other > 60 or other % order != 0:
                    assert_raises(self, BadOrder, "thing", other, lambda: lifted(order, turn(order, 1), other))


class Wrongs(unittest.TestCase):

    ORDER = ("order", 4, NOT_ORDERS, BadOrder)

    def number(self, name):
        return (name, ((1, -2), 3), NOT_NUMBERS, BadNumber)

    def test_orders(self):
        check_wrongs(self, ring_polynomial, [self.ORDER])
        for order in NOT_ORDERS:
            assert_raises(self, BadOrder, "thing", order, lambda: turn(order, 1))
            assert_raises(self, BadOrder, "thing", order, lambda: turn(order=order, power=1))

    def test_number_of(self):
        not_items = NOTHINGS + [0, 1, (1, True), (False, 0), [1, 2], (1, [2]), (1, (2,)), ("1", 2), (1, None), (0,) * 61,
                                (1,) * 61, tuple(range(100)), "12", {1: 2}, (1, 2.0)]
        self.assertEqual(number_of(4, (0,) * 60, 1), zero(4))
        check_wrongs(self, number_of, [self.ORDER, ("items", (1, 2, 3), not_items, BadItems),
                                       ("bottom", -2, NOT_INTEGERS + [0], BadCount)])

    def test_two_numbers(self):
        for function in [plus, minus, times]:
            check_wrongs(self, function, [self.ORDER, self.number("one"), self.number("other")])

    def test_one_number(self):
        for function in [inverse, norm, trace, loudness]:
            check_wrongs(self, function, [self.ORDER, self.number("number")])

    def test_with_more(self):
        check_wrongs(self, exchanged, [self.ORDER, self.number("number"),
                                       ("j", 3, NOT_INTEGERS + [0, 2, -4, 4, 10 ** 40], BadCount)])
        check_wrongs(self, lifted, [self.ORDER, self.number("number"),
                                    ("other", 12, NOT_ORDERS + [1, 2, 3, 6, 10, 59, 64, -4, 4 * 10 ** 30], BadOrder)])

    def test_numbers_of_other_orders(self):
        for number in [((1,), 1), ((1, 1, 1, 1), 1), ((1, 1, 1), 1)]:
            assert_raises(self, BadNumber, "thing", number, lambda: plus(4, number, ((1, 1), 1)))
            assert_raises(self, BadNumber, "thing", number, lambda: plus(4, ((1, 1), 1), number))
            assert_raises(self, BadNumber, "thing", number, lambda: inverse(4, number))

    def test_bools_for_orders_and_numbers(self):
        assert_raises(self, BadOrder, "thing", True, lambda: turn(True, 0))
        assert_raises(self, BadOrder, "thing", True, lambda: lifted(1, ((1,), 1), True))
        for number in [((True,), 1), ((1,), True), ((False,), 1)]:
            assert_raises(self, BadNumber, "thing", number, lambda: norm(1, number))

    def test_zero_is_behind_a_wrong_number(self):
        assert_raises(self, BadNumber, "thing", ((0, 0), 2), lambda: inverse(4, ((0, 0), 2)))


if __name__ == "__main__":
    unittest.main()
