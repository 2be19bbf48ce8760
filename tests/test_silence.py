"""Silent voices: rows with just these, whole classes and their sums."""

import itertools
import math
import random
import unittest

from ringvoices.errors import BadLot, BadPlace, BadRings
from ringvoices.numbers import plus, turn
from ringvoices.rings import all_places, classes, order_of, pairing, place_times, size_of
from ringvoices.silence import are_classes, class_sum, row_with_silent, whole_with_silent
from ringvoices.voices import is_row, is_whole, row_of, sounding
from tests.checking import NOT_LOTS, NOT_PLACES, NOT_RINGS, check_wrongs, same
from tests.oracle import PRIME, pair, turn_image, voice_images, whole, zero

SMALL_RINGS = [(2,), (3,), (4,), (5,), (6,), (2, 2), (2, 3), (7,), (2, 4), (2, 2, 2)]
MIDDLE_RINGS = [(8,), (9,), (3, 3), (12,), (2, 6), (2, 2, 3), (13,), (16,), (2, 8), (4, 4), (2, 2, 2, 2)]
GREAT_RINGS = [(60,), (59,), (2, 30), (6, 10), (2, 2, 15), (2, 2, 3, 5), (7, 8), (27,), (32,), (4, 12), (2, 3, 3, 3)]


def all_lots(rings):
    places = all_places(rings)
    return [lot for many in range(len(places) + 1) for lot in itertools.combinations(places, many)]


def some_lots(rings, many=8):
    places, dice = all_places(rings), random.Random(f"{rings} {many}")
    found = [(), places, places[:1], places[-1:], places[1:], places[::2]]
    return found + [tuple(place for place in places if dice.random() < part) for part in (.1, .5, .9) for _ in range(many)]


def class_of(rings, label):
    order = order_of(rings)
    return tuple(sorted({place_times(rings, label, j) for j in range(order) if math.gcd(j, order) == 1}))


def lots_of_classes(rings, many=8):
    dice = random.Random(f"{rings} {many}")
    found = [(), classes(rings), classes(rings)[:1], classes(rings)[-1:], classes(rings)[1:]]
    found += [[lot for lot in classes(rings) if dice.random() < .5] for _ in range(many)]
    return [tuple(sorted(label for lot in lots for label in lot)) for lots in found]


def silent_labels(rings, row):
    sounds = sounding(rings, row)
    return tuple(label for label in all_places(rings) if label not in sounds)


class Rows(unittest.TestCase):

    def check(self, rings, labels):
        row = row_with_silent(rings, labels)
        self.assertIs(is_row(rings, row), True)
        self.assertEqual(silent_labels(rings, row), labels)
        self.assertEqual([part == 0 for part in voice_images(rings, row)],
                         [label in labels for label in all_places(rings)])
        self.assertTrue(same(row_with_silent(rings, labels), row))

    def test_all_lots(self):
        for rings in SMALL_RINGS[:8]:
            for labels in all_lots(rings):
                self.check(rings, labels)

    def test_some_lots(self):
        for rings in SMALL_RINGS[8:] + MIDDLE_RINGS:
            for labels in some_lots(rings, 3):
                self.check(rings, labels)

    def test_edges(self):
        for rings in SMALL_RINGS + MIDDLE_RINGS:
            zeros = (zero(order_of(rings)),) * size_of(rings)
            self.assertTrue(same(row_with_silent(rings, all_places(rings)), zeros))
            self.assertNotIn(zero(order_of(rings)), row_with_silent(rings, ())[:1])


class WholeRows(unittest.TestCase):

    def check(self, rings, labels):
        items = whole_with_silent(rings, labels)
        if not all(kin in labels for label in labels for kin in class_of(rings, label)):
            self.assertIsNone(items)
            return
        self.assertIs(is_whole(rings, items), True)
        order, places = order_of(rings), all_places(rings)
        for label in places:
            # Where voices are images modulo a prime this great, none is silent by chance.
            heard = sum(item * turn_image(order, pair(rings, place, label)) for item, place in zip(items, places))
            self.assertEqual(heard % PRIME == 0, label in labels)
        if size_of(rings) <= 16:
            self.assertEqual(silent_labels(rings, row_of(rings, items)), labels)

    def test_all_lots(self):
        for rings in SMALL_RINGS:
            for labels in all_lots(rings):
                self.check(rings, labels)

    def test_some_lots(self):
        for rings in MIDDLE_RINGS:
            for labels in some_lots(rings) + lots_of_classes(rings):
                self.check(rings, labels)

    def test_great_ones(self):
        for rings in GREAT_RINGS:
            for labels in some_lots(rings, 1) + lots_of_classes(rings, 3):
                self.check(rings, labels)

    def test_silent_labels_of_whole_rows(self):
        for rings in SMALL_RINGS + MIDDLE_RINGS:
            dice = random.Random(f"{rings}")
            for _ in range(12):
                items = tuple(dice.choice((-1, 0, 0, 1)) for _ in range(size_of(rings)))
                self.assertIs(are_classes(rings, silent_labels(rings, row_of(rings, items))), True)

    def test_by_hand(self):
        self.assertIsNone(whole_with_silent((3,), ((1,),)))
        self.assertIsNone(whole_with_silent((5,), ((0,), (1,), (2,), (3,))))
        self.assertEqual(whole_with_silent((2,), ((0,), (1,))), (0, 0))
        items = whole_with_silent((3,), ((1,), (2,)))
        self.assertTrue(items[0] == items[1] == items[2] != 0)


class Classes(unittest.TestCase):

    def test_are_classes(self):
        for rings in SMALL_RINGS:
            for labels in all_lots(rings):
                expected = all(set(lot) <= set(labels) or not set(lot) & set(labels) for lot in classes(rings))
                self.assertIs(are_classes(rings, labels), expected)

    def test_great_ones(self):
        for rings in MIDDLE_RINGS + GREAT_RINGS:
            for labels in lots_of_classes(rings):
                self.assertIs(are_classes(rings, labels), True)
                for label in labels[:3]:
                    less = tuple(other for other in labels if other != label)
                    self.assertIs(are_classes(rings, less), len(class_of(rings, label)) == 1)

    def test_by_hand(self):
        self.assertIs(are_classes((5,), ()), True)
        self.assertIs(are_classes((5,), ((1,), (4,))), False)
        self.assertIs(are_classes((2, 2), ((0, 1), (1, 0))), True)
        self.assertIs(are_classes((4,), ((1,), (2,))), False)
        self.assertIs(are_classes((4,), ((1,), (3,))), True)
        self.assertIs(are_classes((60,), ((12,), (24,), (36,), (48,))), True)


class ClassSums(unittest.TestCase):

    def test_definition(self):
        for rings in SMALL_RINGS + [(12,), (2, 6), (4, 4), (16,), (6, 10)]:
            order = order_of(rings)
            for label in all_places(rings)[:20]:
                for place in all_places(rings)[::3]:
                    total = zero(order)
                    for kin in class_of(rings, label):
                        total = plus(order, total, turn(order, pairing(rings, place, kin)))
                    found = class_sum(rings, label, place)
                    self.assertIs(type(found), int)
                    self.assertEqual(whole(order, found), total)

    def test_the_same_for_all_of_a_class(self):
        for rings in GREAT_RINGS + [(12,), (2, 2, 2, 2)]:
            order = order_of(rings)
            for lot in classes(rings):
                for place in all_places(rings)[::11] + all_places(rings)[-1:]:
                    found = {class_sum(rings, label, place) for label in (lot[0], lot[-1], lot[len(lot) // 2])}
                    self.assertEqual(len(found), 1)
                    image = sum(turn_image(order, pair(rings, place, label)) for label in lot)
                    self.assertEqual((image - found.pop()) % PRIME, 0)

    def test_edges(self):
        for rings in SMALL_RINGS + MIDDLE_RINGS + GREAT_RINGS:
            places = all_places(rings)
            for place in (places[0], places[-1]):
                self.assertTrue(same(class_sum(rings, places[0], place), 1))
            self.assertEqual(class_sum(rings, places[-1], places[0]), len(class_of(rings, places[-1])))
        self.assertEqual([class_sum((7,), (3,), (0,)), class_sum((7,), (3,), (5,))], [6, -1])
        self.assertEqual([class_sum((60,), (1,), (1,)), class_sum((60,), (1,), (2,)), class_sum((60,), (30,), (1,))],
                         [0, -2, -1])

    def test_sums_over_a_subgroup_of_all(self):
        for rings in SMALL_RINGS + [(60,), (2, 2, 3, 5)]:
            for place in all_places(rings):
                total = sum(class_sum(rings, lot[0], place) for lot in classes(rings))
                self.assertEqual(total, 0 if any(place) else size_of(rings))


class Wrongs(unittest.TestCase):

    RINGS = ("rings", (2, 3), NOT_RINGS, BadRings)

    def test_lots(self):
        for function in [row_with_silent, whole_with_silent, are_classes]:
            check_wrongs(self, function, [self.RINGS, ("labels", ((0, 0), (1, 2)), NOT_LOTS, BadLot)])

    def test_places(self):
        check_wrongs(self, class_sum, [self.RINGS, ("label", (1, 2), NOT_PLACES, BadPlace),
                                       ("place", (0, 1), NOT_PLACES, BadPlace)])


if __name__ == "__main__":
    unittest.main()
