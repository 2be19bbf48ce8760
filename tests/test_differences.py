"""Differences of rows and lots: by definition, by voices and by hand, and certificates of both kinds."""

import itertools
import random
import unittest

from ringvoices.differences import (companions, differences, differences_hold, is_turned, judge_differences,
                                    lot_differences)
from ringvoices.errors import BadLot, BadRings, BadRow, BadWhole
from ringvoices.mixing import mirrored, mixed, moved, single
from ringvoices.numbers import exchanged, loudness, number_of, plus, times, turn
from ringvoices.rings import all_places, lot_times, moved_lot, order_of, place_sum, place_times, seat_of, size_of, subgroup
from ringvoices.voices import is_row, is_whole, row_of, voice, voices, whole_of
from tests.checking import (DESK, NOT_LOTS, NOT_RINGS, NOT_ROWS, NOT_WHOLES, RIGHT_ROW, RIGHT_WHOLE, check_any_value,
                            check_wrongs, check_wrongs_beside, same)
from tests.oracle import PRIME, changed, is_strict_place, is_strict_row, some_rows, units, voice_images, zero

SMALL_RINGS = [(2,), (3,), (4,), (5,), (6,), (2, 2), (2, 3), (3, 2), (7,), (8,), (2, 4), (2, 2, 2)]
MIDDLE_RINGS = SMALL_RINGS + [(9,), (3, 3), (10,), (11,), (12,), (2, 6), (3, 4), (2, 2, 3)]
GREAT_RINGS = [(13,), (14,), (15,), (3, 5), (16,), (2, 8), (4, 4), (2, 2, 4), (2, 2, 2, 2)]


def less(rings, one, other):
    return place_sum(rings, one, place_times(rings, other, -1))


def plain_differences(rings, row):
    """At each place the sum of an item times one turned about, by the definition."""
    order, places = order_of(rings), all_places(rings)
    found = [zero(order)] * len(places)
    for (i, x), (k, y) in itertools.product(enumerate(places), repeat=2):
        at = seat_of(rings, less(rings, x, y))
        found[at] = plus(order, found[at], times(order, row[i], exchanged(order, row[k], -1)))
    return tuple(found)


def plain_counts(rings, lot):
    pairs = [less(rings, one, other) for one in lot for other in lot]
    return tuple(pairs.count(place) for place in all_places(rings))


def all_lots(rings):
    places = all_places(rings)
    return [lot for many in range(len(places) + 1) for lot in itertools.combinations(places, many)]


def some_lots(rings, many=3):
    places, dice = all_places(rings), random.Random(f"{rings} {many}")
    found = [(), places, places[:1], places[-1:], places[1:], places[:3], subgroup(rings, places[1:2]),
             moved_lot(rings, subgroup(rings, places[-1:]), places[1])]
    return found + [tuple(place for place in places if dice.random() < part) for part in (.2, .4, .6) for _ in range(many)]


def indicator(rings, lot):
    return tuple(int(place in lot) for place in all_places(rings))


def is_loud_alike(rings, one, other, label):
    return loudness(order_of(rings), voice(rings, one, label)) == loudness(order_of(rings), voice(rings, other, label))


def expected(rings, items, other, thing):
    """Whether a thing is a certificate, by its form and by images at every exchange."""
    if type(thing) is not tuple or len(thing) != 2 or type(thing[0]) is not str:
        return False
    word, part = thing
    if word == "label":
        return is_strict_place(rings, part) and not is_loud_alike(rings, row_of(rings, items), row_of(rings, other), part)
    if word != "turns" or not is_strict_row(rings, part) or any(any(tops[1:]) for tops, _ in part):
        return False
    order = order_of(rings)
    for j in units(order):
        ones, others, turns = [voice_images(rings, row, j) for row in (row_of(rings, items), row_of(rings, other), part)]
        backs = voice_images(rings, part, -j)
        if any(a * b % PRIME != c or b * back % PRIME != 1 for a, b, c, back in zip(ones, turns, others, backs)):
            return False
    return True


class Differences(unittest.TestCase):

    def test_definition(self):
        for rings in SMALL_RINGS:
            for row in some_rows(rings, 1):
                found = differences(rings, row)
                self.assertIs(is_row(rings, found), True)
                self.assertTrue(same(found, plain_differences(rings, row)))

    def test_great_ones(self):
        for rings in MIDDLE_RINGS[12:] + GREAT_RINGS:
            for row in some_rows(rings, 1)[4:]:
                found = differences(rings, row)
                for j in units(order_of(rings))[:2]:
                    backs = zip(voice_images(rings, row, j), self.backs(rings, row, j), voice_images(rings, found, j))
                    self.assertTrue(all(a * b % PRIME == c for a, b, c in backs))

    def backs(self, rings, row, j):
        """The images of the voices turned about."""
        return voice_images(rings, tuple(exchanged(order_of(rings), item, -1) for item in mirrored(rings, row)), j)

    def test_voices_are_loudnesses(self):
        for rings in MIDDLE_RINGS + GREAT_RINGS:
            order = order_of(rings)
            for row in some_rows(rings, 1)[3:8]:
                loud = tuple(loudness(order, number) for number in voices(rings, row))
                self.assertTrue(same(voices(rings, differences(rings, row)), loud))

    def test_edges(self):
        for rings in MIDDLE_RINGS + GREAT_RINGS:
            n, order = size_of(rings), order_of(rings)
            self.assertTrue(same(differences(rings, row_of(rings, (0,) * n)), row_of(rings, (0,) * n)))
            self.assertTrue(same(differences(rings, single(rings)), single(rings)))
            self.assertEqual(whole_of(rings, differences(rings, row_of(rings, (2,) * n))), (4 * n,) * n)
            one = (zero(order),) * (n - 1) + (times(order, turn(order, 1), number_of(order, (3,), 2)),)
            self.assertEqual(differences(rings, one), (number_of(order, (9,), 4),) + (zero(order),) * (n - 1))

    def test_by_hand(self):
        self.assertEqual(differences((2,), row_of((2,), (3, 5))), row_of((2,), (34, 30)))
        # 1 at the origin and i at the next place: i, and i turned about, at the two sides.
        row = (((1, 0), 1), ((0, 1), 1), ((0, 0), 1), ((0, 0), 1))
        self.assertEqual(differences((4,), row), (((2, 0), 1), ((0, 1), 1), ((0, 0), 1), ((0, -1), 1)))


class LotDifferences(unittest.TestCase):

    def test_all_lots(self):
        for rings in SMALL_RINGS[:8]:
            for lot in all_lots(rings):
                found = lot_differences(rings, lot)
                self.assertIs(is_whole(rings, found), True)
                self.assertTrue(same(found, plain_counts(rings, lot)))
                self.assertEqual(found, whole_of(rings, differences(rings, row_of(rings, indicator(rings, lot)))))

    def test_some_lots(self):
        for rings in MIDDLE_RINGS[8:] + GREAT_RINGS:
            for lot in some_lots(rings):
                found = lot_differences(rings, lot)
                self.assertTrue(same(found, plain_counts(rings, lot)))
                self.assertEqual((found[0], sum(found)), (len(lot), len(lot) ** 2))

    def test_subgroups(self):
        for rings in MIDDLE_RINGS + GREAT_RINGS:
            group = subgroup(rings, all_places(rings)[-1:])
            expected_ones = tuple(len(group) * here for here in indicator(rings, group))
            self.assertEqual(lot_differences(rings, group), expected_ones)
            self.assertEqual(lot_differences(rings, moved_lot(rings, group, all_places(rings)[1])), expected_ones)


class Judge(unittest.TestCase):

    def check(self, rings, items, other):
        found = judge_differences(rings, items, other)
        self.assertTrue(same(found, judge_differences(rings, items, other)))
        self.assertTrue(expected(rings, items, other, found), found)
        self.assertIs(differences_hold(rings, items, other, found), True)
        alike = differences(rings, row_of(rings, items)) == differences(rings, row_of(rings, other))
        self.assertEqual(found[0], "turns" if alike else "label")
        for label in all_places(rings):
            unlike = not is_loud_alike(rings, row_of(rings, items), row_of(rings, other), label)
            self.assertIs(differences_hold(rings, items, other, ("label", label)), unlike)
            self.assertFalse(alike and unlike)
        if alike:
            row = found[1]
            self.assertEqual(differences(rings, row), single(rings))
            self.assertEqual(mixed(rings, row_of(rings, items), row), row_of(rings, other))
        return found[0]

    def some_wholes(self, rings):
        dice, n = random.Random(f"{rings}"), size_of(rings)
        found = [(0,) * n, (1,) + (0,) * (n - 1), (0,) * (n - 1) + (-3,), (1,) * n, (1, -1) + (0,) * (n - 2)]
        found += [tuple(dice.choice((0, 0, 1, 2)) for _ in range(n)) for _ in "abc"]
        return found + [tuple(dice.randrange(-10 ** 12, 10 ** 12) for _ in range(n))]

    def test_all_pairs(self):
        for rings in [(2,), (3,), (4,), (2, 2)]:
            items = (0, 1, -1) if size_of(rings) < 4 else (0, 1)
            for one, other in itertools.product(itertools.product(items, repeat=size_of(rings)), repeat=2):
                self.check(rings, one, other)

    def test_some_pairs(self):
        for rings in MIDDLE_RINGS:
            wholes = self.some_wholes(rings)
            for one, other in zip(wholes, wholes[1:] + wholes[:1]):
                self.check(rings, one, other)

    def test_moved_and_mirrored(self):
        for rings in MIDDLE_RINGS:
            for items in self.some_wholes(rings)[1::3]:
                row = row_of(rings, items)
                place = all_places(rings)[-1]
                for other in (row, mirrored(rings, row), moved(rings, row, place), mirrored(rings, moved(rings, row, place))):
                    self.assertEqual(self.check(rings, items, whole_of(rings, other)), "turns")
                self.assertEqual(self.check(rings, items, tuple(-item for item in items)), "turns")
                more = (items[0] + 1,) + items[1:]
                self.check(rings, items, more)

    def test_other_lots_with_the_same(self):
        # Some lots have the same differences, but are not turned into one another.
        pairs = [((8,), ((0,), (1,), (2,), (5,)), ((0,), (1,), (3,), (4,)))]
        pairs += [(rings, lot, other) for rings in [(12,), (2, 6)] for lot in [all_places(rings)[:2] + all_places(rings)[4:6]]
                  for other in companions(rings, lot) if not is_turned(rings, lot, other)][:6]
        for rings, one, other in pairs:
            self.assertEqual(lot_differences(rings, one), lot_differences(rings, other))
            self.assertIs(is_turned(rings, one, other), False)
            self.assertEqual(self.check(rings, indicator(rings, one), indicator(rings, other)), "turns")

    def test_products(self):
        # Two rows mixed, and the one mixed with the other one mirrored, have the same differences.
        for rings in MIDDLE_RINGS:
            dice = random.Random(f"{rings}")
            one, other = [row_of(rings, tuple(dice.randrange(-5, 6) for _ in all_places(rings))) for _ in "ab"]
            first = whole_of(rings, mixed(rings, one, other))
            second = whole_of(rings, mixed(rings, one, mirrored(rings, other)))
            self.assertEqual(self.check(rings, first, second), "turns")

    def test_silent_voices(self):
        for rings in MIDDLE_RINGS:
            n = size_of(rings)
            for items in [(0,) * n, (1,) * n, (1, -1) + (0,) * (n - 2)]:
                for other in [items, tuple(-item for item in items), (0,) * n]:
                    self.check(rings, items, other)

    def test_great_integers(self):
        for rings in MIDDLE_RINGS:
            dice = random.Random(f"{rings}")
            items = tuple(dice.randrange(-10 ** 99, 10 ** 99) for _ in all_places(rings))
            other = whole_of(rings, moved(rings, mirrored(rings, row_of(rings, items)), all_places(rings)[1]))
            self.assertEqual(self.check(rings, items, other), "turns")
            self.assertEqual(self.check(rings, items, (other[0] + 1,) + other[1:]), "label")

    def test_by_hand(self):
        self.assertEqual(judge_differences((2,), (1, 2), (1, 2)), ("turns", row_of((2,), (1, 0))))
        self.assertEqual(judge_differences((2,), (1, 2), (2, 1)), ("turns", row_of((2,), (0, 1))))
        self.assertEqual(judge_differences((2,), (1, 2), (-2, -1)), ("turns", row_of((2,), (0, -1))))
        self.assertEqual(judge_differences((2,), (1, 0), (0, 2)), ("label", (0,)))
        self.assertEqual(judge_differences((2,), (1, 1), (2, 0)), ("label", (1,)))
        self.assertEqual(judge_differences((5,), (1, 2, 0, 0, 0), (0, 0, 0, 1, 2))[1], row_of((5,), (0, 0, 0, 1, 0)))


class Certificates(unittest.TestCase):

    CASES = [((2,), (1, 2), (2, 1)), ((2,), (1, 2), (1, 1)), ((2,), (0, 0), (0, 0)), ((3,), (1, 0, 0), (0, 1, 0)),
             ((3,), (1, 1, 1), (1, 1, 1)), ((3,), (1, 2, 0), (2, 1, 1)), ((4,), (1, 0, 2, 0), (0, 2, 0, 1)),
             ((2, 2), (1, 2, 3, 4), (4, 3, 2, 1)), ((5,), (1, 2, 0, 0, 0), (2, 1, 0, 0, 0))]

    def test_nearly_right_ones(self):
        for rings, items, other in self.CASES:
            found = judge_differences(rings, items, other)
            for thing in [*changed(found), ("turns", single(rings)), ("label", all_places(rings)[0]), ("turns", items),
                          ("label", found[1]), ("turns", found[1]), ("Label", found[1]), found + found[1:], found[:1]]:
                self.assertIs(differences_hold(rings, items, other, thing), expected(rings, items, other, thing), thing)

    def test_items_that_are_no_fractions(self):
        # The row of one turn has the right differences and leads zeros to zeros, but its item is no fraction.
        order = 5
        for rings, items in [((5,), (0,) * 5), ((4,), (0,) * 4), ((6,), (0,) * 6)]:
            order = order_of(rings)
            spun = (turn(order, 1),) + (zero(order),) * (len(items) - 1)
            self.assertEqual(differences(rings, spun), single(rings))
            self.assertIs(differences_hold(rings, items, items, ("turns", spun)), False)
            self.assertIs(differences_hold(rings, items, items, ("turns", single(rings))), True)

    def test_rows_that_lead_otherwise(self):
        # Where voices are silent, more than one row may lead; each has to have the differences of the single one.
        items = (1, 1)
        half, three = number_of(2, (1,), 2), number_of(2, (3,), 2)
        for row, good in [(row_of((2,), (1, 0)), True), (row_of((2,), (0, 1)), True), ((half, half), False),
                          ((three, number_of(2, (-1,), 2)), False), (row_of((2,), (-1, 0)), False)]:
            self.assertIs(differences_hold((2,), items, items, ("turns", row)), good)

    def test_fractions(self):
        # Its voices are 1, (3 + 4 i) / 5, 1 and this turned about.
        row = tuple(number_of(4, (top,), 5) for top in (4, 2, 1, -2))
        self.assertEqual(differences((4,), row), single((4,)))
        self.assertEqual(judge_differences((4,), (5, 0, 0, 0), (4, 2, 1, -2)), ("turns", row))
        self.assertIs(differences_hold((4,), (5, 0, 0, 0), (4, 2, 1, -2), ("turns", row)), True)
        self.assertIs(differences_hold((4,), (5, 0, 0, 0), (4, 2, 1, -2), ("turns", row_of((4,), (4, 2, 1, -2)))), False)
        self.assertIs(differences_hold((4,), (5, 0, 0, 0), (4, -2, 1, 2), ("turns", row)), False)
        self.assertEqual(judge_differences((4,), (5, 0, 0, 0), (3, 4, 0, 0))[0], "label")

    def test_any_value(self):
        more = [("turns", RIGHT_ROW), ("turns", (0,) * 6), ("label", (0, 0)), ("label", (0, 3)), (DESK, (0, 0))]
        check_any_value(self, differences_hold, ((2, 3), (1, 2, 0, 0, 0, 0), (2, 1, 0, 0, 0, 0)), more)
        check_any_value(self, differences_hold, ((2, 3), (1, 0, 0, 0, 0, 0), (1, 1, -1, 0, 0, 0)), more)
        self.assertIs(differences_hold((2, 3), (1, 0, 0, 0, 0, 0), (2, 0, 0, 0, 0, 0), thing=("label", (0, 0))), True)


class Turned(unittest.TestCase):

    def slow_turned(self, rings, one, other):
        mirror = tuple(sorted(place_times(rings, place, -1) for place in one))
        return any(tuple(sorted(place_sum(rings, x, place) for x in side)) == other
                   for side in (one, mirror) for place in all_places(rings))

    def test_all_lots(self):
        for rings in [(2,), (3,), (4,), (5,), (2, 2), (2, 3)]:
            for one, other in itertools.product(all_lots(rings), repeat=2):
                self.assertIs(is_turned(rings, one, other), self.slow_turned(rings, one, other))

    def test_some_lots(self):
        for rings in MIDDLE_RINGS[6:]:
            for one in some_lots(rings, 2):
                for place in all_places(rings)[1:3]:
                    other = moved_lot(rings, one, place)
                    self.assertIs(is_turned(rings, one, other), True)
                    self.assertIs(is_turned(rings, lot_times(rings, one, -1), other), True)
                    self.assertEqual(lot_differences(rings, one), lot_differences(rings, other))
                for other in some_lots(rings, 2):
                    self.assertIs(is_turned(rings, one, other), self.slow_turned(rings, one, other))

    def test_by_hand(self):
        self.assertIs(is_turned((7,), ((0,), (1,), (3,)), ((0,), (2,), (3,))), True)
        self.assertIs(is_turned((7,), ((0,), (1,), (3,)), ((0,), (1,), (2,))), False)
        self.assertIs(is_turned((5,), (), ()), True)
        self.assertIs(is_turned((5,), (), ((0,),)), False)
        self.assertIs(is_turned((2, 2), ((0, 0), (0, 1)), ((0, 0), (1, 0))), False)

    def test_companions(self):
        for rings in SMALL_RINGS[:8]:
            lots = sorted(all_lots(rings))
            told = {lot: plain_counts(rings, lot) for lot in lots}
            for lot in lots:
                found = companions(rings, lot)
                self.assertTrue(same(found, tuple(other for other in lots if told[other] == told[lot])))
                self.assertIn(lot, found)

    def test_companions_of_great_ones(self):
        strangers = 0
        for rings in MIDDLE_RINGS[8:]:
            lots = all_lots(rings)
            for lot in some_lots(rings, 1):
                wanted = lot_differences(rings, lot)
                found = companions(rings, lot)
                self.assertEqual(found, tuple(sorted(found)))
                self.assertIn(lot, found)
                turned = {moved_lot(rings, side, place) for side in (lot, lot_times(rings, lot, -1))
                          for place in all_places(rings)}
                self.assertTrue(turned <= set(found))
                strangers += len(set(found) - turned)
                for other in found:
                    self.assertEqual(lot_differences(rings, other), wanted)
                for other in random.Random(f"{rings}{lot}").sample(lots, 20):
                    self.assertEqual(other in found, lot_differences(rings, other) == wanted)
        self.assertTrue(strangers > 0)

    def test_companions_by_hand(self):
        self.assertEqual(companions((4,), ()), ((),))
        self.assertEqual(companions((3,), ((1,),)), (((0,),), ((1,),), ((2,),)))
        self.assertEqual(companions((3,), all_places((3,))), (all_places((3,)),))
        self.assertEqual(companions((4,), ((0,), (1,))), (((0,), (1,)), ((0,), (3,)), ((1,), (2,)), ((2,), (3,))))
        self.assertEqual(len(companions((8,), ((0,), (1,), (2,), (5,)))), 16)


class Wrongs(unittest.TestCase):

    RINGS = ("rings", (2, 3), NOT_RINGS, BadRings)
    PLACES = ("places", ((0, 0), (1, 2)), NOT_LOTS, BadLot)
    WHOLES = [RINGS, ("whole", RIGHT_WHOLE, NOT_WHOLES, BadWhole), ("other", (1, 0, 0, 0, 0, 2), NOT_WHOLES, BadWhole)]

    def test_rows(self):
        check_wrongs(self, differences, [self.RINGS, ("row", RIGHT_ROW, NOT_ROWS, BadRow)])

    def test_wholes(self):
        check_wrongs(self, judge_differences, self.WHOLES)
        check_wrongs_beside(self, differences_hold, self.WHOLES)

    def test_lots(self):
        for function in [lot_differences, companions]:
            check_wrongs(self, function, [self.RINGS, self.PLACES])
        check_wrongs(self, is_turned, [self.RINGS, self.PLACES, ("labels", ((0, 1),), NOT_LOTS, BadLot)])


if __name__ == "__main__":
    unittest.main()
