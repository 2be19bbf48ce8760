"""Rows and their voices, against images modulo a prime and by hand."""

import unittest

from ringvoices.errors import BadPlace, BadRings, BadRow, BadWhole
from ringvoices.numbers import is_number, loudness, minus, norm, number_of, plus, times, turn
from ringvoices.rings import all_places, is_lot, order_of, pairing, size_of, subgroup
from ringvoices.voices import (filled, is_row, is_whole, row_back, row_of, sounding, voice, voices, whole_of)
from tests.checking import (NOT_PLACES, NOT_RINGS, NOT_ROWS, NOT_WHOLES, RIGHT_ROW, RIGHT_WHOLE, STRANGER,
                            assert_raises, check_wrongs, same)
from tests.oracle import (PRIME, changed, is_strict_row, row_images, some_rows, units, voice_images, whole, zero)

SMALL_RINGS = [(2,), (3,), (4,), (5,), (6,), (2, 2), (2, 3), (3, 2), (2, 4), (7,), (8,), (2, 2, 2)]
GREAT_RINGS = [(9,), (3, 3), (10,), (12,), (2, 6), (2, 2, 3), (13,), (15,), (3, 5), (16,), (2, 8), (4, 4), (2, 2, 4),
               (2, 2, 2, 2)]
SOME_RINGS = SMALL_RINGS + GREAT_RINGS


def number_product(order, number, whole_number):
    return times(order, number, whole(order, whole_number))


class IsRow(unittest.TestCase):

    def test_rows(self):
        for rings in SOME_RINGS:
            for row in some_rows(rings):
                self.assertIs(is_row(rings, row), True)
                self.assertIs(is_row(rings, list(row)), False)
                self.assertIs(is_row(rings, row[:-1]), False)
                self.assertIs(is_row(rings, row + row[:1]), False)
                self.assertIs(is_whole(rings, row), False)

    def test_of_other_rings(self):
        for rings in SOME_RINGS:
            for others in SOME_RINGS:
                row = (zero(order_of(rings)),) * size_of(rings)
                alike = size_of(rings) == size_of(others) and len(row[0][0]) == len(units(order_of(others)))
                self.assertIs(is_row(others, row), alike)

    def test_nearly_right_ones(self):
        for rings, row in [((2,), (((0,), 1), ((-3,), 2))), ((2, 3), RIGHT_ROW), ((4,), some_rows((4,))[-1])]:
            for thing in changed(row):
                self.assertIs(is_row(rings, thing), is_strict_row(rings, thing), thing)

    def test_any_value(self):
        self.assertIs(is_row((2, 3), RIGHT_ROW), True)
        for thing in NOT_ROWS + [RIGHT_WHOLE, "000000", (0,) * 12]:
            self.assertIs(is_row((2, 3), thing), False, thing)
            self.assertIs(is_row(rings=(2, 3), thing=thing), False, thing)

    def test_wrong_rings(self):
        for rings in NOT_RINGS:
            for thing in [(), None, RIGHT_ROW, STRANGER]:
                for function in [is_row, is_whole]:
                    assert_raises(self, BadRings, "thing", rings, lambda: function(rings, thing))


class WholeRows(unittest.TestCase):

    def test_whole_rows(self):
        for rings in SOME_RINGS:
            for item in [0, 1, -1, 10 ** 12 - 1, -10 ** 99]:
                self.assertIs(is_whole(rings, (item,) * size_of(rings)), True)
                self.assertIs(is_whole(rings, (item,) * (size_of(rings) - 1)), False)
                self.assertIs(is_whole(rings, (item,) * (size_of(rings) + 1)), False)
                self.assertIs(is_row(rings, (item,) * size_of(rings)), False)

    def test_any_value(self):
        self.assertIs(is_whole((2, 3), RIGHT_WHOLE), True)
        for thing in NOT_WHOLES:
            self.assertIs(is_whole((2, 3), thing), False, thing)
            self.assertIs(is_whole(rings=(2, 3), thing=thing), False, thing)
        for thing in [(True, 0), (0, False), (1, 1.0), [1, 0], (1,), "10", (1, 0, 0)]:
            self.assertIs(is_whole((2,), thing), False, thing)

    def test_there_and_back(self):
        for rings in SOME_RINGS:
            size, order = size_of(rings), order_of(rings)
            for items in [(0,) * size, tuple(range(-2, size - 2)), (10 ** 12 - 1,) + (-10 ** 12 + 1,) * (size - 1)]:
                row = row_of(rings, items)
                self.assertIs(is_row(rings, row), True)
                self.assertTrue(same(row, tuple(whole(order, item) for item in items)))
                self.assertTrue(same(whole_of(rings, row), items))

    def test_whole_of_others(self):
        for rings in SOME_RINGS:
            order, size = order_of(rings), size_of(rings)
            others = [number_of(order, (1,), 2), number_of(order, (6,), 4)]
            others += [turn(order, 1), plus(order, turn(order, 1), whole(order, 3))] if order > 2 else []
            for other in others:
                for at in {0, size // 2, size - 1}:
                    row = (whole(order, 4),) * at + (other,) + (zero(order),) * (size - at - 1)
                    self.assertIsNone(whole_of(rings, row))
            self.assertEqual(whole_of(rings, (turn(order, order),) * size), (1,) * size)
        self.assertTrue(same(whole_of((2,), (turn(2, 1), turn(2, 0))), (-1, 1)))
        self.assertTrue(same(whole_of((4,), (turn(4, 2),) * 4), (-1,) * 4))

    def test_by_hand(self):
        self.assertEqual(row_of((2,), (0, -7)), (((0,), 1), ((-7,), 1)))
        self.assertEqual(row_of((3,), (1, 0, 2)), (((1, 0), 1), ((0, 0), 1), ((2, 0), 1)))


class Voices(unittest.TestCase):

    def test_images(self):
        for rings in SOME_RINGS:
            order = order_of(rings)
            for row in some_rows(rings, 1):
                found = voices(rings, row)
                self.assertIs(is_row(rings, found), True)
                for j in {1, order - 1, units(order)[len(units(order)) // 2]}:
                    self.assertEqual(row_images(rings, found, j), voice_images(rings, row, j))

    def test_all_exchanges(self):
        for rings in [(5,), (8,), (12,), (2, 4)]:
            for row in some_rows(rings, 2):
                for j in units(order_of(rings)):
                    self.assertEqual(row_images(rings, voices(rings, row), j), voice_images(rings, row, j))

    def test_one_voice(self):
        for rings in SOME_RINGS:
            for row in some_rows(rings, 1):
                found = tuple(voice(rings, row, label) for label in all_places(rings))
                self.assertTrue(same(found, voices(rings, row)))
                self.assertIs(is_number(order_of(rings), found[-1]), True)

    def test_by_reckoning_with_numbers(self):
        for rings in [(2,), (3,), (6,), (2, 3), (2, 2, 2)]:
            order, places = order_of(rings), all_places(rings)
            for row in some_rows(rings):
                for label in places:
                    total = zero(order)
                    for item, place in zip(row, places):
                        total = plus(order, total, times(order, item, turn(order, pairing(rings, place, label))))
                    self.assertTrue(same(voice(rings, row, label), total))

    def test_by_hand(self):
        self.assertEqual(voices((2,), (((5,), 1), ((2,), 3))), (((17,), 3), ((13,), 3)))
        self.assertEqual(voices((3,), row_of((3,), (0, 1, 0))), (((1, 0), 1), ((0, 1), 1), ((-1, -1), 1)))
        self.assertEqual(voices((4,), row_of((4,), (1, 2, 3, 4))),
                         (((10, 0), 1), ((-2, -2), 1), ((-2, 0), 1), ((-2, 2), 1)))
        self.assertEqual(voice((4,), row_of((4,), (0, 1, 0, 0)), (1,)), ((0, 1), 1))
        self.assertEqual(voice((2, 3), row_of((2, 3), (0, 0, 0, 0, 1, 0)), (1, 1)), turn(6, 5))
        self.assertEqual(voice((2, 3), row_of((2, 3), (0, 0, 0, 0, 1, 0)), (0, 2)), turn(6, 4))
        self.assertEqual(voices((2, 2), row_of((2, 2), (1, 2, 3, 4))),
                         (((10,), 1), ((-2,), 1), ((-4,), 1), ((0,), 1)))

    def test_back_by_hand(self):
        self.assertEqual(row_back((2,), (((5,), 1), ((2,), 3))), (((17,), 6), ((13,), 6)))
        self.assertEqual(row_back((3,), row_of((3,), (0, 1, 0))), (((1, 0), 3), ((-1, -1), 3), ((0, 1), 3)))
        self.assertEqual(row_back((4,), row_of((4,), (0, 4, 0, 0)))[1], ((0, -1), 1))

    def test_there_and_back(self):
        for rings in SOME_RINGS:
            for row in some_rows(rings):
                back = row_back(rings, row)
                self.assertIs(is_row(rings, back), True)
                self.assertTrue(same(row_back(rings, voices(rings, row)), row))
                self.assertTrue(same(voices(rings, back), row))
                if row[0] != zero(order_of(rings)):
                    self.assertTrue(voices(rings, row) != row or back != row)

    def test_rows_that_are_told_by_voices(self):
        for rings in SMALL_RINGS:
            rows = some_rows(rings)
            for one in rows:
                for other in rows:
                    self.assertEqual(one == other, voices(rings, one) == voices(rings, other))

    def test_loudness_of_all(self):
        for rings in SOME_RINGS:
            order = order_of(rings)
            for row in some_rows(rings, 1):
                totals = []
                for items in (row, voices(rings, row)):
                    total = zero(order)
                    for item in items:
                        total = plus(order, total, loudness(order, item))
                    totals.append(total)
                self.assertTrue(same(number_product(order, totals[0], size_of(rings)), totals[1]))

    def test_subgroups(self):
        for rings in SOME_RINGS:
            order, places = order_of(rings), all_places(rings)
            for some in [(), places[1:2], places[-1:], places[len(places) // 2:][:1], places[2::5], places]:
                lot = subgroup(rings, some)
                row = row_of(rings, tuple(int(place in lot) for place in places))
                barred = tuple(label for label in places
                               if all(pairing(rings, place, label) == 0 for place in lot))
                found = voices(rings, row)
                expected = tuple(whole(order, len(lot) if label in barred else 0) for label in places)
                self.assertTrue(same(found, expected))
                self.assertTrue(same(sounding(rings, row), barred))
                self.assertEqual(len(barred) * len(lot), size_of(rings))

    def test_norms_of_voices_of_whole_rows(self):
        for rings in SOME_RINGS:
            size = size_of(rings)
            for items in [tuple(range(size)), (1, -1) * (size // 2) + (1,) * (size % 2), (10 ** 12 - 1,) * (size - 1) + (0,)]:
                for number in voices(rings, row_of(rings, items)):
                    self.assertEqual(norm(order_of(rings), number)[1], 1)


class FilledAndSounding(unittest.TestCase):

    def test_definitions(self):
        for rings in SOME_RINGS:
            places, order = all_places(rings), order_of(rings)
            for row in some_rows(rings):
                found, sounds = filled(rings, row), sounding(rings, row)
                self.assertTrue(same(found, tuple(place for place, item in zip(places, row) if item != zero(order))))
                self.assertTrue(same(sounds, filled(rings, voices(rings, row))))
                self.assertEqual(sounds, tuple(label for label, part in zip(places, voice_images(rings, row))
                                               if part % PRIME != 0))
                self.assertTrue(is_lot(rings, found) and is_lot(rings, sounds))
                self.assertEqual(sounding(rings, row_back(rings, row)), found)
                self.assertEqual(found == (), sounds == ())

    def test_edges(self):
        for rings in SOME_RINGS:
            places, order = all_places(rings), order_of(rings)
            zeros = (zero(order),) * len(places)
            self.assertEqual((filled(rings, zeros), sounding(rings, zeros)), ((), ()))
            for at, place in enumerate(places):
                row = zeros[:at] + (number_of(order, (0, 1), 7),) + zeros[at + 1:]
                self.assertEqual((filled(rings, row), sounding(rings, row)), ((place,), places))
            ones = (whole(order, 1),) * len(places)
            self.assertEqual((filled(rings, ones), sounding(rings, ones)), (places, places[:1]))

    def test_items_whose_first_top_is_nothing(self):
        self.assertEqual(filled((3,), (((0, 1), 1), ((0, 0), 1), ((0, -1), 5))), ((0,), (2,)))
        row = tuple(turn(3, k) for k in range(3))
        self.assertEqual(sounding((3,), row), ((2,),))
        self.assertEqual(sounding((3,), tuple(minus(3, zero(3), item) for item in row)), ((2,),))


class Wrongs(unittest.TestCase):

    RINGS = ("rings", (2, 3), NOT_RINGS, BadRings)
    ROW = ("row", RIGHT_ROW, NOT_ROWS, BadRow)

    def test_whole(self):
        check_wrongs(self, row_of, [self.RINGS, ("whole", RIGHT_WHOLE, NOT_WHOLES, BadWhole)])

    def test_row(self):
        for function in [whole_of, voices, row_back, filled, sounding]:
            check_wrongs(self, function, [self.RINGS, self.ROW])

    def test_voice(self):
        check_wrongs(self, voice, [self.RINGS, self.ROW, ("label", (1, 2), NOT_PLACES, BadPlace)])


if __name__ == "__main__":
    unittest.main()
