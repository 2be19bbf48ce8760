"""Rings, places and lots, against what can be told by trying everything."""

import itertools
import math
import unittest
from fractions import Fraction

from ringvoices.errors import BadCount, BadLot, BadPlace, BadRings
from ringvoices.rings import (all_places, are_rings, classes, is_lot, lot_times, moved_lot, order_of, pairing,
                              place_sum, place_times, seat_of, size_of, subgroup)
from tests.checking import NOT_INTEGERS, NOT_LOTS, NOT_PLACES, NOT_RINGS, check_wrongs, same


def list_rings(most, many):
    """All tuples of so many lengths from 2 on whose product is at most this."""
    if many == 0:
        return [()]
    return [(length, *others) for length in range(2, most + 1) for others in list_rings(most // length, many - 1)]


ALL_RINGS = [rings for many in (1, 2, 3, 4) for rings in list_rings(60, many)]
SOME_RINGS = [(2,), (3,), (4,), (6,), (12,), (60,), (59,), (2, 2), (2, 3), (3, 2), (2, 4), (6, 10), (4, 4), (2, 30),
              (2, 2, 2), (2, 3, 4), (3, 3, 3), (2, 2, 2, 2), (2, 2, 3, 5), (5, 2, 3, 2), (2, 2, 2, 7)]


def some_lots(rings):
    places = all_places(rings)
    return [(), places[:1], places[-1:], places, places[::2], places[1::3], places[1:3], places[len(places) // 2:][:2]]


def brute_subgroup(rings, places):
    found = {(0,) * len(rings)}
    while True:
        more = found | {place_sum(rings, one, other) for one in found for other in places}
        if more == found:
            return tuple(sorted(found))
        found = more


class AreRings(unittest.TestCase):

    def test_all_of_them(self):
        self.assertEqual(len(ALL_RINGS), len(set(ALL_RINGS)))
        for rings in ALL_RINGS:
            self.assertIs(are_rings(rings), True)

    def test_edges(self):
        for rings in [(2,), (60,), (2, 30), (6, 10), (2, 2, 15), (2, 2, 3, 5), (2, 2, 2, 7)]:
            self.assertIs(are_rings(rings), True, rings)
        for rings in [(), (1,), (61,), (2, 31), (8, 8), (2, 2, 16), (2, 2, 4, 4), (2, 2, 2, 2, 2), (2, 2, 2, 2, 3),
                      (30, 2, 1), (1, 4), (60, 1), (-2, -3), (0, 5)]:
            self.assertIs(are_rings(rings), False, rings)

    def test_any_value(self):
        for thing in NOT_RINGS:
            self.assertIs(are_rings(thing), False, thing)
            self.assertIs(are_rings(thing=thing), False, thing)


class Sizes(unittest.TestCase):

    def test_size_and_order(self):
        for rings in ALL_RINGS:
            self.assertTrue(same(size_of(rings), math.prod(rings)))
            self.assertTrue(same(order_of(rings), math.lcm(*rings)))

    def test_by_hand(self):
        self.assertEqual([size_of((2,)), size_of((60,)), size_of((2, 2, 3, 5)), size_of((4, 6))], [2, 60, 60, 24])
        self.assertEqual([order_of((2,)), order_of((60,)), order_of((2, 2, 3, 5)), order_of((4, 6))], [2, 60, 30, 12])
        self.assertEqual([order_of((2, 2, 2, 2)), order_of((4, 2))], [2, 4])


class Places(unittest.TestCase):

    def test_all_places(self):
        for rings in ALL_RINGS:
            expected = tuple(itertools.product(*[range(length) for length in rings]))
            self.assertTrue(same(all_places(rings), expected))
        self.assertEqual(all_places((2, 3)), ((0, 0), (0, 1), (0, 2), (1, 0), (1, 1), (1, 2)))

    def test_all_places_are_a_lot_of_the_size(self):
        for rings in SOME_RINGS:
            places = all_places(rings)
            self.assertIs(is_lot(rings, places), True)
            self.assertEqual(len(places), size_of(rings))
            self.assertEqual(list(places), sorted(set(places)))

    def test_seats(self):
        for rings in SOME_RINGS:
            seats = [seat_of(rings, place) for place in all_places(rings)]
            self.assertTrue(same(seats, list(range(size_of(rings)))))
        self.assertEqual([seat_of((2, 3), (0, 2)), seat_of((3, 2), (2, 0)), seat_of((2, 2, 3, 5), (1, 1, 2, 4))],
                         [2, 4, 59])

    def test_sums(self):
        for rings in [(5,), (2, 3), (4, 2), (2, 2, 3)]:
            for one, other in itertools.product(all_places(rings), repeat=2):
                expected = tuple((a + b) % length for a, b, length in zip(one, other, rings))
                self.assertTrue(same(place_sum(rings, one, other), expected))
                self.assertEqual(place_sum(rings, other, one), expected)

    def test_times(self):
        for rings in [(5,), (2, 3), (4, 6), (2, 2, 3, 5)]:
            for place in all_places(rings):
                self.assertEqual(place_times(rings, place, 0), (0,) * len(rings))
                self.assertEqual(place_times(rings, place, 1), place)
                self.assertEqual(place_sum(rings, place_times(rings, place, -1), place), (0,) * len(rings))
                self.assertEqual(place_times(rings, place, order_of(rings)), (0,) * len(rings))
                for many in [-7, -2, 2, 3, 11, 10 ** 50, -10 ** 50 - 1]:
                    expected = tuple(item * many % length for item, length in zip(place, rings))
                    self.assertTrue(same(place_times(rings, place, many), expected))

    def test_pairings(self):
        for rings in [(7,), (12,), (2, 3), (2, 4), (4, 6), (2, 2, 3)]:
            order = order_of(rings)
            for place, label in itertools.product(all_places(rings), repeat=2):
                part = sum(Fraction(a * b, length) for a, b, length in zip(place, label, rings)) % 1
                self.assertTrue(same(pairing(rings, place, label), int(part * order)))
                self.assertEqual(Fraction(pairing(rings, place, label), order), part)

    def test_pairings_of_sums(self):
        rings = (2, 2, 3, 5)
        places = all_places(rings)
        for one, other, label in itertools.product(places[::7], places[::5], places[::4]):
            added = pairing(rings, place_sum(rings, one, other), label)
            self.assertEqual(added, (pairing(rings, one, label) + pairing(rings, other, label)) % 30)
            self.assertEqual(pairing(rings, label, one), pairing(rings, one, label))
        self.assertEqual([pairing(rings, (1, 1, 2, 4), (1, 1, 2, 4)), pairing((60,), (59,), (59,))],
                         [(15 + 15 + 40 + 96) % 30, 1])


class Lots(unittest.TestCase):

    def test_lots(self):
        for rings in SOME_RINGS:
            for lot in some_lots(rings):
                self.assertIs(is_lot(rings, lot), True)
                self.assertIs(is_lot(rings, list(lot)), False)
                self.assertIs(is_lot(rings, lot[::-1]), len(lot) < 2)
                self.assertIs(is_lot(rings, lot + lot[-1:]), lot == ())

    def test_any_value(self):
        for thing in NOT_LOTS:
            self.assertIs(is_lot((2, 3), thing), False, thing)
            self.assertIs(is_lot(rings=(2, 3), thing=thing), False, thing)
        for thing in NOT_PLACES:
            if thing != ():
                self.assertIs(is_lot((2, 3), ((0, 0), thing)), False, thing)
                self.assertIs(is_lot((2, 3), (thing,)), False, thing)

    def test_moved(self):
        for rings in SOME_RINGS:
            for lot in some_lots(rings):
                self.assertEqual(moved_lot(rings, lot, (0,) * len(rings)), lot)
                for place in all_places(rings)[1::5]:
                    moved = moved_lot(rings, lot, place)
                    self.assertTrue(same(moved, tuple(sorted(place_sum(rings, one, place) for one in lot))))
                    self.assertIs(is_lot(rings, moved), True)
                    self.assertEqual(moved_lot(rings, moved, place_times(rings, place, -1)), lot)
        self.assertEqual(moved_lot((2, 3), ((0, 0), (0, 2), (1, 1)), (1, 1)), ((0, 2), (1, 0), (1, 1)))

    def test_taken_many_times(self):
        for rings in SOME_RINGS:
            for lot in some_lots(rings):
                for many in [-10 ** 30, -3, -1, 0, 1, 2, 3, 60, 10 ** 30 + 1]:
                    taken = lot_times(rings, lot, many)
                    expected = tuple(sorted({place_times(rings, place, many) for place in lot}))
                    self.assertTrue(same(taken, expected))
                    self.assertIs(is_lot(rings, taken), True)
                self.assertEqual(lot_times(rings, lot, 1), lot)
                self.assertEqual(lot_times(rings, lot, 0), ((0,) * len(rings),) if lot != () else ())
        self.assertEqual(lot_times((6,), ((0,), (2,), (3,), (5,)), 2), ((0,), (4,)))
        self.assertEqual(lot_times((5,), ((1,), (3,)), -1), ((2,), (4,)))

    def test_subgroups(self):
        for rings in SOME_RINGS:
            for lot in some_lots(rings):
                found = subgroup(rings, lot)
                self.assertTrue(same(found, brute_subgroup(rings, lot)))
                self.assertIs(is_lot(rings, found), True)
                self.assertEqual(size_of(rings) % len(found), 0)

    def test_subgroups_are_closed(self):
        for rings in [(12,), (2, 4), (4, 6), (3, 3), (2, 2, 3)]:
            for one, other in itertools.combinations(all_places(rings), 2):
                found = subgroup(rings, (one, other))
                self.assertEqual({place_sum(rings, a, b) for a in found for b in found}, set(found))
                self.assertTrue({one, other} <= set(found))
                self.assertEqual(subgroup(rings, found), found)

    def test_subgroups_by_hand(self):
        self.assertEqual([subgroup((6,), ()), subgroup((2, 2), ()), subgroup((6,), ((0,),))],
                         [((0,),), ((0, 0),), ((0,),)])
        self.assertEqual([subgroup((6,), ((3,),)), subgroup((6,), ((2,), (3,)))], [((0,), (3,)), all_places((6,))])
        self.assertEqual(subgroup((2, 4), ((1, 2),)), ((0, 0), (1, 2)))

    def test_classes(self):
        for rings in SOME_RINGS:
            order = order_of(rings)
            found = classes(rings)
            self.assertEqual(list(found), sorted(set(found)))
            self.assertEqual(sorted(label for lot in found for label in lot), list(all_places(rings)))
            for lot in found:
                self.assertIs(is_lot(rings, lot), True)
                for label in lot:
                    kin = {place_times(rings, label, j) for j in range(-order, 2 * order) if math.gcd(j, order) == 1}
                    self.assertTrue(same(lot, tuple(sorted(kin))))

    def test_classes_by_hand(self):
        self.assertEqual(classes((2,)), (((0,),), ((1,),)))
        self.assertEqual(classes((5,)), (((0,),), ((1,), (2,), (3,), (4,))))
        self.assertEqual(classes((2, 2)), (((0, 0),), ((0, 1),), ((1, 0),), ((1, 1),)))
        self.assertEqual(classes((2, 3)), (((0, 0),), ((0, 1), (0, 2)), ((1, 0),), ((1, 1), (1, 2))))
        self.assertEqual(classes((3, 3))[1:3], (((0, 1), (0, 2)), ((1, 0), (2, 0))))


class Wrongs(unittest.TestCase):

    RINGS = ("rings", (2, 3), NOT_RINGS, BadRings)
    LOT = ("places", ((0, 0), (1, 2)), NOT_LOTS, BadLot)
    MANY = ("many", -2, NOT_INTEGERS, BadCount)

    def place(self, name):
        return (name, (1, 2), NOT_PLACES, BadPlace)

    def test_rings_alone(self):
        for function in [size_of, order_of, all_places, classes]:
            check_wrongs(self, function, [self.RINGS])

    def test_is_lot(self):
        for rings in NOT_RINGS:
            for thing in [(), ((0, 0),), None, [1]]:
                with self.assertRaises(BadRings) as caught:
                    is_lot(rings, thing)
                self.assertIs(caught.exception.thing, rings)

    def test_places(self):
        check_wrongs(self, seat_of, [self.RINGS, self.place("place")])
        check_wrongs(self, place_sum, [self.RINGS, self.place("one"), self.place("other")])
        check_wrongs(self, place_times, [self.RINGS, self.place("place"), self.MANY])
        check_wrongs(self, pairing, [self.RINGS, self.place("place"), self.place("label")])

    def test_lots(self):
        check_wrongs(self, moved_lot, [self.RINGS, self.LOT, self.place("place")])
        check_wrongs(self, lot_times, [self.RINGS, self.LOT, self.MANY])
        check_wrongs(self, subgroup, [self.RINGS, self.LOT])

    def test_wrong_ones_that_are_alike(self):
        with self.assertRaises(BadPlace) as caught:
            place_sum((5,), (5,), [0])
        self.assertEqual(caught.exception.thing, (5,))
        for place in [(True,), (False,), [1], 1, ((1,),)]:
            for call in [lambda: seat_of((2,), place), lambda: place_sum((2,), (0,), place)]:
                with self.assertRaises(BadPlace) as caught:
                    call()
                self.assertIs(caught.exception.thing, place)


if __name__ == "__main__":
    unittest.main()
