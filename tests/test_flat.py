"""Flat rows, difference lots and multipliers: by definition, by differences and by hand."""

import itertools
import math
import random
import unittest

from ringvoices.differences import differences, lot_differences
from ringvoices.errors import BadCount, BadLot, BadRings, BadWhole
from ringvoices.flat import difference_lots, flat_holds, is_difference_lot, judge_flat, multipliers
from ringvoices.numbers import loudness
from ringvoices.rings import (all_places, lot_times, moved_lot, order_of, place_sum, place_times, seat_of, size_of,
                              subgroup)
from ringvoices.voices import row_of, voice, whole_of
from tests.checking import (DESK, NOT_INTEGERS, NOT_LOTS, NOT_RINGS, NOT_WHOLES, RIGHT_WHOLE, check_any_value,
                            check_wrongs, check_wrongs_beside, same)
from tests.oracle import changed, is_strict_place, whole

SMALL_RINGS = [(2,), (3,), (4,), (5,), (6,), (2, 2), (2, 3), (7,), (8,), (2, 4), (2, 2, 2)]
GREAT_RINGS = [(9,), (3, 3), (11,), (12,), (2, 6), (13,), (15,), (3, 5), (16,), (2, 8), (4, 4), (2, 2, 4), (2, 2, 2, 2)]


def all_lots(rings):
    places = all_places(rings)
    return [lot for many in range(len(places) + 1) for lot in itertools.combinations(places, many)]


def some_lots(rings, many=3):
    places, dice = all_places(rings), random.Random(f"{rings} {many}")
    found = [(), places, places[:1], places[-1:], places[1:], places[:3], subgroup(rings, places[1:2])]
    return found + [tuple(place for place in places if dice.random() < part) for part in (.2, .4, .6) for _ in range(many)]


def indicator(rings, lot):
    return tuple(int(place in lot) for place in all_places(rings))


def some_wholes(rings):
    dice, n = random.Random(f"{rings}"), size_of(rings)
    found = [(0,) * n, (-4,) + (0,) * (n - 1), (0,) * (n - 1) + (3,), (5,) * n, (7,) + (2,) * (n - 1), (1,) * (n - 1) + (-1,)]
    found += [indicator(rings, lot) for lot in some_lots(rings, 1)]
    return found + [tuple(dice.randrange(-10 ** digits, 10 ** digits) for _ in range(n)) for digits in (1, 12, 99)]


def loud(rings, items, label):
    return loudness(order_of(rings), voice(rings, row_of(rings, items), label))


def expected(rings, items, thing):
    """Whether a thing is a certificate, by its form and by the loudness of each voice."""
    every = all_places(rings)
    if type(thing) is not tuple or thing == () or type(thing[0]) is not str:
        return False
    if thing[0] == "flat" and len(thing) == 2 and type(thing[1]) is int:
        return all(loud(rings, items, label) == whole(order_of(rings), thing[1]) for label in every[1:])
    if thing[0] != "labels" or len(thing) != 3 or not all(is_strict_place(rings, label) for label in thing[1:]):
        return False
    if every[0] in thing[1:] or seat_of(rings, thing[1]) >= seat_of(rings, thing[2]):
        return False
    return loud(rings, items, thing[1]) != loud(rings, items, thing[2])


class Flat(unittest.TestCase):

    def check(self, rings, items):
        found = judge_flat(rings, items)
        self.assertTrue(same(found, judge_flat(rings, items)))
        self.assertTrue(expected(rings, items, found), found)
        self.assertIs(flat_holds(rings, items, found), True)
        # A row is flat exactly if its differences are the same at all places but the origin.
        first, *others = whole_of(rings, differences(rings, row_of(rings, items)))
        is_flat = len(set(others)) == 1
        self.assertEqual(found[0], "flat" if is_flat else "labels")
        if is_flat:
            self.assertTrue(same(found[1], first - others[0]))
        return found

    def test_all_rows(self):
        for rings in SMALL_RINGS[:7]:
            for items in itertools.product((0, 1), repeat=size_of(rings)):
                self.check(rings, items)

    def test_some_rows(self):
        for rings in SMALL_RINGS + GREAT_RINGS:
            for items in some_wholes(rings):
                self.check(rings, items)

    def test_rows_of_one_item(self):
        for rings in SMALL_RINGS + GREAT_RINGS:
            n = size_of(rings)
            self.assertTrue(same(judge_flat(rings, (0,) * n), ("flat", 0)))
            self.assertTrue(same(judge_flat(rings, (9,) * n), ("flat", 0)))
            for at in {0, n // 2, n - 1}:
                self.assertTrue(same(judge_flat(rings, (0,) * at + (-3,) + (0,) * (n - 1 - at)), ("flat", 9)))
                self.assertTrue(same(judge_flat(rings, (2,) * at + (7,) + (2,) * (n - 1 - at)), ("flat", 25)))

    def test_two_places(self):
        for one, other in itertools.product(range(-4, 5), repeat=2):
            self.assertTrue(same(judge_flat((2,), (one, other)), ("flat", (one - other) ** 2)))

    def test_great_integers(self):
        for rings in SMALL_RINGS + GREAT_RINGS:
            n, great = size_of(rings), 10 ** 99 + 7
            self.assertEqual(self.check(rings, (great,) + (1,) * (n - 1)), ("flat", (great - 1) ** 2))
            self.check(rings, (great, 1 - great) + (0,) * (n - 2))

    def test_both_labels_are_looked_at(self):
        for rings in SMALL_RINGS[2:8]:
            for items in some_wholes(rings)[4::2]:
                for one, other in itertools.product(all_places(rings), repeat=2):
                    thing = ("labels", one, other)
                    self.assertIs(flat_holds(rings, items, thing), expected(rings, items, thing))

    def test_by_hand(self):
        self.assertEqual(judge_flat((4,), (1, 1, 0, 0)), ("labels", (1,), (2,)))
        self.assertEqual(judge_flat((4,), (1, 1, 1, -1)), ("flat", 4))
        self.assertEqual(judge_flat((2, 2), (1, 1, 1, -1)), ("flat", 4))
        self.assertEqual(judge_flat((7,), (0, 0, 1, 0, 1, 1, 1)), ("flat", 2))

    def test_nearly_right_ones(self):
        for rings, items in [((2,), (3, 1)), ((3,), (1, 0, 0)), ((3,), (1, 2, 0)), ((4,), (1, 1, 0, 0)), ((2, 2), (1, 2, 0, 0)),
                             ((7,), (1, 1, 0, 1, 0, 0, 0)), ((5,), (0,) * 5)]:
            found = judge_flat(rings, items)
            every = all_places(rings)
            for thing in [*changed(found), ("flat", 0), ("flat", 1), ("flat", True), ("flat", False), ("flat", (4, 1)),
                          ("labels", every[1], every[1]), ("labels", every[0], every[1]), ("labels", every[-1], every[1]),
                          ("labels", every[0], every[-1]), ("labels", every[1]), ("flat",), ("Flat", 4), ["flat", 0]]:
                self.assertIs(flat_holds(rings, items, thing), expected(rings, items, thing), (rings, items, thing))

    def test_any_value(self):
        more = [("flat", 5), ("labels", (0, 0), (0, 1)), ("labels", (0, 1), (0, 1)), ("labels", (0, 1), (0, 3)), (DESK,)]
        check_any_value(self, flat_holds, ((2, 3), (1, 0, 0, 0, 0, 0)), more)
        check_any_value(self, flat_holds, ((2, 3), (1, 2, 0, 0, 0, 0)), more + [("flat", 1), ("flat", 0)])
        self.assertIs(flat_holds((2, 3), (1, 0, 0, 0, 0, 0), thing=("flat", 1)), True)


class DifferenceLots(unittest.TestCase):

    def is_one(self, rings, lot):
        pairs = [place_sum(rings, one, place_times(rings, other, -1)) for one in lot for other in lot]
        return len({pairs.count(place) for place in all_places(rings)[1:]}) == 1

    def test_all_lots(self):
        for rings in SMALL_RINGS:
            for lot in all_lots(rings):
                self.assertIs(is_difference_lot(rings, lot), self.is_one(rings, lot))

    def test_some_lots(self):
        for rings in GREAT_RINGS:
            for lot in some_lots(rings):
                self.assertIs(is_difference_lot(rings, lot), self.is_one(rings, lot))

    def test_flat_rows(self):
        # A lot is one exactly if its row is flat; the loudness is the number of places less that of differences.
        for rings in SMALL_RINGS + GREAT_RINGS:
            for lot in some_lots(rings, 2) + list(difference_lots(rings, (size_of(rings) - 1) // 2)[:5]):
                found = judge_flat(rings, indicator(rings, lot))
                self.assertIs(is_difference_lot(rings, lot), found[0] == "flat")
                if found[0] == "flat":
                    c, n = len(lot), size_of(rings)
                    self.assertEqual(found[1], c - c * (c - 1) // (n - 1))
                    self.assertEqual(lot_differences(rings, lot)[1:], (c * (c - 1) // (n - 1),) * (n - 1))

    def test_each_number_of_places(self):
        for rings in SMALL_RINGS:
            for c in range(size_of(rings) + 1):
                found = difference_lots(rings, c)
                self.assertTrue(same(found, difference_lots(rings, c)))
                lots = tuple(lot for lot in all_lots(rings) if len(lot) == c and self.is_one(rings, lot))
                self.assertTrue(same(found, lots))
                self.assertEqual(found, tuple(sorted(found)))

    def test_edges(self):
        for rings in SMALL_RINGS + GREAT_RINGS:
            every, n = all_places(rings), size_of(rings)
            self.assertEqual(difference_lots(rings, 0), ((),))
            self.assertEqual(difference_lots(rings, 1), tuple((place,) for place in every))
            self.assertEqual(difference_lots(rings, n), (every,))
            self.assertEqual(difference_lots(rings, n - 1), tuple(sorted(every[:k] + every[k + 1:] for k in range(n))))

    def test_great_ones(self):
        told = {((11,), 5): 22, ((13,), 4): 52, ((15,), 7): 30, ((3, 5), 7): 30, ((16,), 6): 0, ((2, 8), 6): 192,
                ((4, 4), 6): 192, ((2, 2, 4), 6): 448, ((2, 2, 2, 2), 6): 448, ((7,), 3): 14, ((9,), 3): 0}
        for (rings, c), many in told.items():
            found = difference_lots(rings, c)
            self.assertEqual(len(found), many, (rings, c))
            self.assertEqual(found, tuple(sorted(found)))
            for lot in found[:3] + found[-2:]:
                self.assertTrue(self.is_one(rings, lot))
                # Those moved, and the places that are left, are difference lots, too.
                self.assertIn(moved_lot(rings, lot, all_places(rings)[-1]), found)
                left = tuple(place for place in all_places(rings) if place not in lot)
                self.assertIn(left, difference_lots(rings, size_of(rings) - c))

    def test_no_other_number_of_places(self):
        for rings in GREAT_RINGS:
            n = size_of(rings)
            for c in range(n + 1):
                if c * (c - 1) % (n - 1):
                    self.assertEqual(difference_lots(rings, c), ())

    def test_by_hand(self):
        self.assertEqual(difference_lots((3,), 2), (((0,), (1,)), ((0,), (2,)), ((1,), (2,))))
        self.assertEqual(difference_lots((7,), 3)[:3], (((0,), (1,), (3,)), ((0,), (1,), (5,)), ((0,), (2,), (3,))))
        self.assertEqual(difference_lots((5,), 2), ())
        self.assertIs(is_difference_lot((7,), ((0,), (1,), (2,))), False)
        self.assertIs(is_difference_lot((13,), ((0,), (1,), (3,), (9,))), True)


class Multipliers(unittest.TestCase):

    def slow(self, rings, lot):
        order, found = order_of(rings), []
        for j in range(1, order + 1):
            taken = sorted(place_times(rings, place, j) for place in lot)
            moves = [sorted(place_sum(rings, one, place) for one in lot) for place in all_places(rings)]
            found += [j] if math.gcd(j, order) == 1 and taken in moves else []
        return tuple(found)

    def test_all_lots(self):
        for rings in SMALL_RINGS[:7]:
            for lot in all_lots(rings):
                self.assertTrue(same(multipliers(rings, lot), self.slow(rings, lot)))

    def test_some_lots(self):
        for rings in SMALL_RINGS[7:] + GREAT_RINGS:
            for lot in some_lots(rings) + list(difference_lots(rings, (size_of(rings) - 1) // 2)[:2]):
                found = multipliers(rings, lot)
                self.assertTrue(same(found, self.slow(rings, lot)))
                self.assertEqual(found[0], 1)
                for j in found:
                    moves = [moved_lot(rings, lot, place) for place in all_places(rings)]
                    self.assertIn(lot_times(rings, lot, j), moves)

    def test_edges(self):
        for rings in SMALL_RINGS + GREAT_RINGS:
            order = order_of(rings)
            units = tuple(j for j in range(1, order + 1) if math.gcd(j, order) == 1)
            for lot in [(), all_places(rings), all_places(rings)[-1:], all_places(rings)[:1], all_places(rings)[1:]]:
                self.assertEqual(multipliers(rings, lot), units)

    def test_by_hand(self):
        self.assertEqual(multipliers((7,), ((0,), (1,), (3,))), (1, 2, 4))
        self.assertEqual(multipliers((13,), ((0,), (1,), (3,), (9,))), (1, 3, 9))
        self.assertEqual(multipliers((5,), ((0,), (1,))), (1, 4))
        self.assertEqual(multipliers((2, 2), ((0, 1), (1, 1))), (1,))


class Wrongs(unittest.TestCase):

    RINGS = ("rings", (2, 3), NOT_RINGS, BadRings)
    WHOLES = [RINGS, ("whole", RIGHT_WHOLE, NOT_WHOLES, BadWhole)]

    def test_wholes(self):
        check_wrongs(self, judge_flat, self.WHOLES)
        check_wrongs_beside(self, flat_holds, self.WHOLES)

    def test_lots(self):
        for function in [is_difference_lot, multipliers]:
            check_wrongs(self, function, [self.RINGS, ("places", ((0, 0), (1, 2)), NOT_LOTS, BadLot)])

    def test_counts(self):
        wrongs = NOT_INTEGERS + [-1, 7, -10 ** 99, 10 ** 99]
        check_wrongs(self, difference_lots, [self.RINGS, ("c", 2, wrongs, BadCount)])
        for c in range(7):
            difference_lots((6,), c)


if __name__ == "__main__":
    unittest.main()
