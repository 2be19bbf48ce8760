"""Mixed, moved and mirrored rows, and what undoes a row: by definition, by voices and by hand."""

import itertools
import random
import unittest

from ringvoices.errors import BadCount, BadPlace, BadRings, BadRow, BadWhole
from ringvoices.mixing import (judge_undone, judge_whole, mirrored, mixed, moved, power, single, turned_row,
                               undone_holds, whole_holds)
from ringvoices.numbers import exchanged, norm, number_of, plus, times, turn
from ringvoices.rings import all_places, order_of, place_sum, place_times, seat_of, size_of
from ringvoices.voices import is_row, is_whole, row_of, sounding, voice, voices, whole_of
from tests.checking import (NOT_INTEGERS, NOT_PLACES, NOT_RINGS, NOT_ROWS, NOT_WHOLES, RIGHT_ROW, RIGHT_WHOLE,
                            check_any_value, check_wrongs, check_wrongs_beside, same)
from tests.oracle import (PRIME, changed, is_strict_place, is_strict_row, row_images, some_rows, units, voice_images,
                          zero)

SMALL_RINGS = [(2,), (3,), (4,), (5,), (6,), (2, 2), (2, 3), (7,), (8,), (2, 4), (2, 2, 2)]
SOME_RINGS = SMALL_RINGS + [(9,), (3, 3), (12,), (2, 2, 3), (11,), (13,), (16,), (2, 8), (4, 4), (2, 2, 2, 2)]


def plain_mixed(rings, one, other):
    """Two rows mixed by the definition, number by number."""
    order, places = order_of(rings), all_places(rings)
    found = [zero(order)] * len(places)
    for (i, x), (k, y) in itertools.product(enumerate(places), repeat=2):
        at = seat_of(rings, place_sum(rings, x, y))
        found[at] = plus(order, found[at], times(order, one[i], other[k]))
    return tuple(found)


def whole_mixed(rings, one, other):
    places = all_places(rings)
    found = [0] * len(places)
    for (i, x), (k, y) in itertools.product(enumerate(places), repeat=2):
        found[seat_of(rings, place_sum(rings, x, y))] += one[i] * other[k]
    return tuple(found)


def has_product_one(rings, one, other):
    """Whether all voices of two rows have the product 1, by images at every exchange."""
    return all(a * b % PRIME == 1 for j in units(order_of(rings))
               for a, b in zip(voice_images(rings, one, j), voice_images(rings, other, j)))


class Mixed(unittest.TestCase):

    def test_definition(self):
        for rings in SMALL_RINGS:
            for one, other in itertools.combinations_with_replacement(some_rows(rings, 1), 2):
                self.assertTrue(same(mixed(rings, one, other), plain_mixed(rings, one, other)))

    def test_whole_rows(self):
        dice = random.Random(4)
        for rings in SOME_RINGS:
            one, other = [tuple(dice.randrange(-10 ** 12, 10 ** 12) for _ in all_places(rings)) for _ in "ab"]
            found = mixed(rings, row_of(rings, one), row_of(rings, other))
            self.assertTrue(same(whole_of(rings, found), whole_mixed(rings, one, other)))

    def test_voices(self):
        for rings in SOME_RINGS:
            order = order_of(rings)
            rows = some_rows(rings, 1)
            for one, other in zip(rows[1:], rows[::-1]):
                found = mixed(rings, one, other)
                self.assertIs(is_row(rings, found), True)
                self.assertTrue(same(found, mixed(rings, other, one)))
                expected = tuple(times(order, a, b) for a, b in zip(voices(rings, one), voices(rings, other)))
                self.assertTrue(same(voices(rings, found), expected))

    def test_single(self):
        for rings in SOME_RINGS:
            row = single(rings)
            items = (1,) + (0,) * (size_of(rings) - 1)
            self.assertTrue(same(row, row_of(rings, items)))
            self.assertEqual(whole_of(rings, voices(rings, row)), (1,) * size_of(rings))
            for other in some_rows(rings, 1):
                self.assertTrue(same(mixed(rings, other, row), other))
                self.assertTrue(same(mixed(rings, row, other), other))

    def test_by_hand(self):
        self.assertEqual(mixed((2,), (((1,), 2), ((2,), 1)), (((3,), 1), ((-1,), 1))), (((-1,), 2), ((11,), 2)))
        self.assertEqual(mixed((3,), (((0, 1), 1), ((0, 0), 1), ((0, 0), 1)), row_of((3,), (0, 5, 7))),
                         (((0, 0), 1), ((0, 5), 1), ((0, 7), 1)))
        self.assertEqual(single((2, 2)), (((1,), 1), ((0,), 1), ((0,), 1), ((0,), 1)))


class Moved(unittest.TestCase):

    def test_definition(self):
        for rings in SOME_RINGS:
            places = all_places(rings)
            for row in some_rows(rings, 1)[4:]:
                for place in places[:3] + places[-2:]:
                    found = moved(rings, row, place)
                    for one in places:
                        self.assertIs(found[seat_of(rings, place_sum(rings, one, place))], row[seat_of(rings, one)])
                self.assertTrue(same(moved(rings, row, places[0]), row))

    def test_moved_on(self):
        for rings in SMALL_RINGS:
            row, single_row = some_rows(rings)[4], single(rings)
            for one, other in itertools.product(all_places(rings), repeat=2):
                twice = moved(rings, moved(rings, row, one), other)
                self.assertEqual(twice, moved(rings, row, place_sum(rings, one, other)))
                # A row is moved by mixing it with the single row that is moved.
                self.assertEqual(moved(rings, row, one), mixed(rings, row, moved(rings, single_row, one)))

    def test_voices(self):
        for rings in SOME_RINGS:
            order, places, row = order_of(rings), all_places(rings), some_rows(rings, 1)[-2]
            heard = voices(rings, row)
            for place in places[1:3]:
                for label, one, other in zip(places, heard, voices(rings, moved(rings, row, place))):
                    power_of_turn = sum(a * b * order // n for a, b, n in zip(place, label, rings))
                    self.assertEqual(other, times(order, one, turn(order, power_of_turn)))

    def test_mirrored(self):
        for rings in SOME_RINGS:
            places = all_places(rings)
            for row in some_rows(rings, 1)[2:]:
                found = mirrored(rings, row)
                for place, item in zip(places, found):
                    self.assertIs(item, row[seat_of(rings, place_times(rings, place, -1))])
                self.assertTrue(same(mirrored(rings, found), row))
                heard = voices(rings, row)
                self.assertEqual(voices(rings, found), mirrored(rings, heard))

    def test_turned_about(self):
        for rings in SOME_RINGS:
            order = order_of(rings)
            for row in some_rows(rings, 1):
                found = turned_row(rings, row)
                self.assertIs(is_row(rings, found), True)
                self.assertTrue(same(found, tuple(exchanged(order, item, -1) for item in row)))
                self.assertEqual(row_images(rings, found, 1), row_images(rings, row, order - 1))
                self.assertTrue(same(turned_row(rings, found), row))
                # The voices of a row mirrored and turned about are the voices turned about.
                self.assertEqual(voices(rings, mirrored(rings, found)), turned_row(rings, voices(rings, row)))

    def test_by_hand(self):
        row = row_of((2, 3), (1, 2, 3, 4, 5, 6))
        self.assertEqual(whole_of((2, 3), moved((2, 3), row, (1, 1))), (6, 4, 5, 3, 1, 2))
        self.assertEqual(whole_of((2, 3), mirrored((2, 3), row)), (1, 3, 2, 4, 6, 5))
        self.assertEqual(whole_of((4,), moved((4,), row_of((4,), (1, 2, 3, 4)), (1,))), (4, 1, 2, 3))
        self.assertEqual(turned_row((3,), (((0, 1), 1), ((2, 1), 3), ((1, 0), 2))),
                         (((-1, -1), 1), ((1, -1), 3), ((1, 0), 2)))


class Powers(unittest.TestCase):

    def test_one_after_another(self):
        for rings in SMALL_RINGS:
            for row in some_rows(rings, 1):
                total = single(rings)
                for n in range(9):
                    found = power(rings, row, n)
                    self.assertTrue(same(found, total))
                    if n in (0, 1):
                        self.assertTrue(same(found, row if n else single(rings)))
                    total = mixed(rings, total, row)

    def test_voices(self):
        for rings in SMALL_RINGS:
            row = some_rows(rings, 1)[-1]
            for n in (2, 7, 8):
                found = power(rings, row, n)
                self.assertIs(is_row(rings, found), True)
                self.assertEqual(voice_images(rings, found), [pow(a, n, PRIME) for a in voice_images(rings, row)])

    def test_by_hand(self):
        self.assertEqual(whole_of((2,), power((2,), row_of((2,), (1, 1)), 8)), (128, 128))
        self.assertEqual(whole_of((8,), power((8,), row_of((8,), (1, 1, 0, 0, 0, 0, 0, 0)), 8)),
                         (2, 8, 28, 56, 70, 56, 28, 8))
        self.assertEqual(power((2,), (((0,), 1), ((0,), 1)), 0), single((2,)))


class Undone(unittest.TestCase):

    def expected(self, rings, row, thing):
        """Whether a thing is a certificate, told by images and by the form alone."""
        if type(thing) is not tuple or len(thing) != 2 or type(thing[0]) is not str:
            return False
        if thing[0] == "undone":
            return is_strict_row(rings, thing[1]) and has_product_one(rings, row, thing[1])
        if thing[0] != "silent" or not is_strict_place(rings, thing[1]):
            return False
        return voice_images(rings, row)[all_places(rings).index(thing[1])] == 0

    def test_judged(self):
        for rings in SOME_RINGS:
            for row in some_rows(rings, 1, 12 if size_of(rings) <= 8 else 3):
                found = judge_undone(rings, row)
                self.assertTrue(same(found, judge_undone(rings, row)))
                self.assertIs(undone_holds(rings, row, found), True)
                self.assertTrue(self.expected(rings, row, found))
                silent = [label for label in all_places(rings) if label not in sounding(rings, row)]
                self.assertEqual(found[0], "silent" if silent else "undone")
                for label in all_places(rings):
                    self.assertIs(undone_holds(rings, row, ("silent", label)), label in silent)
                if not silent:
                    self.assertTrue(same(mixed(rings, row, found[1]), single(rings)))
                    self.assertTrue(same(judge_undone(rings, found[1]), ("undone", row)))

    def test_great_bottoms(self):
        bottom = 10 ** 12 - 11
        for rings in [(9,), (11,), (13,), (16,), (2, 8), (15,), (2, 2, 4)]:
            order, dice = order_of(rings), random.Random(f"{rings}")
            row = tuple(number_of(order, tuple(dice.randrange(-10 ** 12, 10 ** 12) for _ in units(order)),
                                  dice.choice((1, bottom))) for _ in all_places(rings))
            word, other = judge_undone(rings, row)
            self.assertEqual(word, "undone")
            self.assertTrue(has_product_one(rings, row, other))
            self.assertIs(undone_holds(rings, row, (word, other)), True)
            self.assertTrue(all(abs(item) < 10 ** 4000 for tops, under in other for item in (*tops, under)))
            self.assertIs(undone_holds(rings, row, (word, other[1:] + other[:1])), False)

    def test_nearly_right_ones(self):
        half = (((1,), 2), ((1,), 2))
        for rings, row in [((2,), (((3,), 2), ((1,), 1))), ((2,), half), ((3,), some_rows((3,), 1)[-2]),
                           ((3,), (turn(3, 0), turn(3, 1), turn(3, 2))), ((2, 2), some_rows((2, 2), 1)[-1]),
                           ((2, 3), row_of((2, 3), (1, 0, 0, 1, 0, 0))), ((4,), row_of((4,), (0, 0, 0, 1))),
                           ((5,), row_of((5,), (1, 1, 0, 0, 0))), ((2,), single((2,)))]:
            found = judge_undone(rings, row)
            for thing in changed(found) + changed(("undone", row)) + changed(("silent", all_places(rings)[-1])):
                self.assertIs(undone_holds(rings, row, thing), self.expected(rings, row, thing), thing)

    def test_numbers_that_are_not_lowered(self):
        row = row_of((2,), (2, 0))
        self.assertIs(undone_holds((2,), row, ("undone", (((1,), 2), ((0,), 1)))), True)
        for other in [(((2,), 4), ((0,), 1)), (((1,), 2), ((0,), 2)), (((-1,), -2), ((0,), 1)), [((1,), 2), ((0,), 1)],
                      (((1,), 2),), (((1,), 2), ((0,), 1), ((0,), 1)), (((1,), 2), ((False,), 1)),
                      (((1,), 2), ((0,), True)), (((True,), 2), ((0,), 1))]:
            self.assertIs(undone_holds((2,), row, ("undone", other)), False)
        for label in [(True,), (False,), [1], 1, (2,), (-1,), (), (0, 0), ((1,),)]:
            self.assertIs(undone_holds((2,), row_of((2,), (0, 0)), ("silent", label)), False, label)

    def test_any_value(self):
        check_any_value(self, undone_holds, ((2, 3), RIGHT_ROW))
        zeros = row_of((2, 3), (0,) * 6)
        check_any_value(self, undone_holds, ((2, 3), zeros), [("undone", zeros), ("silent", (2, 0)), ("undone", (0,) * 6)])
        self.assertIs(undone_holds((2, 3), zeros, thing=("silent", (1, 2))), True)

    def test_by_hand(self):
        self.assertEqual(judge_undone((2,), row_of((2,), (2, 1))), ("undone", (((2,), 3), ((-1,), 3))))
        self.assertEqual(judge_undone((2,), row_of((2,), (1, 1))), ("silent", (1,)))
        self.assertEqual(judge_undone((2,), row_of((2,), (1, -1))), ("silent", (0,)))
        self.assertEqual(judge_undone((3,), (zero(3), turn(3, 1), zero(3))), ("undone", (zero(3), zero(3), turn(3, 2))))


class UndoneByWholeRows(unittest.TestCase):

    UNITS = [((5,), (-1, 1, 0, 0, 1)), ((5,), (-1, 0, 1, 1, 0)), ((8,), (2, 1, 0, -1, -1, -1, 0, 1)), ((2, 2), (0, 0, -1, 0)),
             ((6,), (0, 1, 0, 0, 0, 0)), ((2, 4), (0, 0, 0, 0, 0, 0, -1, 0)), ((7,), (-1, 1, 0, 0, 0, 0, 1))]

    def expected(self, rings, items, thing):
        if type(thing) is not tuple or len(thing) not in (2, 3) or type(thing[0]) is not str:
            return False
        if len(thing) == 2:
            other = thing[1]
            if thing[0] != "undone" or type(other) is not tuple or len(other) != len(items):
                return False
            return (all(type(item) is int for item in other)
                    and whole_mixed(rings, items, other) == (1,) + (0,) * (len(items) - 1))
        if thing[0] != "voice" or not is_strict_place(rings, thing[1]) or type(thing[2]) is not int:
            return False
        if thing[2] in (1, -1):
            return False
        return norm(order_of(rings), voice(rings, row_of(rings, items), thing[1])) == (thing[2], 1)

    def some_wholes(self, rings):
        dice, size = random.Random(f"{rings}"), size_of(rings)
        found = [(0,) * size, (1,) + (0,) * (size - 1), (0,) * (size - 1) + (-1,), (1,) * size, (2,) + (0,) * (size - 1),
                 (1, -1) + (0,) * (size - 2), (1, 1) + (0,) * (size - 2)]
        found += [tuple(dice.randrange(-1, 2) for _ in range(size)) for _ in range(6)]
        found += [tuple(dice.randrange(-10 ** 12, 10 ** 12) for _ in range(size)) for _ in range(2)]
        return found + [items for others, items in self.UNITS if others == rings]

    def test_judged(self):
        words = []
        for rings in SOME_RINGS:
            for items in self.some_wholes(rings):
                found = judge_whole(rings, items)
                self.assertTrue(same(found, judge_whole(rings, items)))
                self.assertIs(whole_holds(rings, items, found), True)
                self.assertTrue(self.expected(rings, items, found))
                norms = [norm(order_of(rings), number)[0] for number in voices(rings, row_of(rings, items))]
                self.assertEqual(found[0], "undone" if set(norms) <= {1, -1} else "voice")
                for label, top in zip(all_places(rings), norms):
                    self.assertIs(whole_holds(rings, items, ("voice", label, top)), top not in (1, -1))
                    self.assertIs(whole_holds(rings, items, ("voice", label, top + 1)), False)
                    self.assertIs(whole_holds(rings, items, ("voice", label, -top)), top == 0)
                words.append(found[0])
        self.assertTrue(words.count("undone") > 30 and words.count("voice") > 30)

    def test_rows_that_are_undone_by_fractions_alone(self):
        for rings, items in [((5,), (1, 1, 0, 0, 0)), ((2,), (2, 1)), ((2, 2), (1, 1, 1, 0)), ((8,), (2,) + (0,) * 7)]:
            self.assertEqual(judge_undone(rings, row_of(rings, items))[0], "undone")
            self.assertEqual(judge_whole(rings, items)[0], "voice")
            back = judge_undone(rings, row_of(rings, items))[1]
            self.assertIs(whole_holds(rings, items, ("undone", back)), False)

    def test_whole_rows_that_are_undone(self):
        for rings, items in self.UNITS:
            word, other = judge_whole(rings, items)
            self.assertEqual(word, "undone")
            self.assertIs(is_whole(rings, other), True)
            self.assertEqual(whole_mixed(rings, items, other), (1,) + (0,) * (len(items) - 1))
            self.assertTrue(same(judge_whole(rings, other), ("undone", items)))
            self.assertEqual(judge_undone(rings, row_of(rings, items)), ("undone", row_of(rings, other)))

    def test_nearly_right_ones(self):
        for rings, items in [((2,), (2, 1)), ((2,), (1, 1)), ((5,), (-1, 1, 0, 0, 1)), ((3,), (0, -1, 0)), ((3,), (1, 1, 1)),
                             ((2, 2), (1, 1, 1, 0)), ((2, 3), (1, 2, 0, 0, 0, 0)), ((4,), (1, 0, 0, 0)), ((2,), (0, 0))]:
            found = judge_whole(rings, items)
            last = all_places(rings)[-1]
            for thing in changed(found) + changed(("undone", items)) + changed(("voice", last, 0)):
                self.assertIs(whole_holds(rings, items, thing), self.expected(rings, items, thing), thing)

    def test_norms_of_other_labels(self):
        items, places = (3, 1, 0, 0, 0, 0), all_places((6,))
        norms = [norm(6, number)[0] for number in voices((6,), row_of((6,), items))]
        self.assertEqual(norms, [16, 13, 7, 4, 7, 13])
        for label, one in zip(places, norms):
            for other in norms:
                self.assertIs(whole_holds((6,), items, ("voice", label, other)), one == other)

    def test_any_value(self):
        check_any_value(self, whole_holds, ((2, 3), RIGHT_WHOLE), [("voice", (0, 0), True), ("voice", (0, 0), 1)])
        zeros = (0,) * 6
        check_any_value(self, whole_holds, ((2, 3), zeros), [
            ("undone", zeros), ("voice", (0, 0), False), ("voice", [0, 0], 0), ("voice", (0, False), 0),
            ("voice", (0, 3), 0), ("voice", (0, 0), 1), ("voice", (0, 0), 0, 0), ("voice", (0, 0), (0, 1)), ("silent", (0, 0)),
            ("voice", (0, 0), None), ["voice", (0, 0), 0], ("Voice", (0, 0), 0)])
        self.assertIs(whole_holds((2, 3), zeros, thing=("voice", (1, 2), 0)), True)

    def test_by_hand(self):
        self.assertEqual(judge_whole((2,), (0, -1)), ("undone", (0, -1)))
        self.assertEqual(judge_whole((2,), (2, 1)), ("voice", (0,), 3))
        self.assertEqual(judge_whole((3,), (0, 1, 0)), ("undone", (0, 0, 1)))
        self.assertIs(whole_holds((2,), (2, 1), ("voice", (1,), 1)), False)
        self.assertIs(whole_holds((2,), (1, 2), ("voice", (1,), -1)), False)
        self.assertIs(whole_holds((2,), (1, 3), ("voice", (1,), -2)), True)


class Wrongs(unittest.TestCase):

    RINGS = ("rings", (2, 3), NOT_RINGS, BadRings)
    ROW = ("row", RIGHT_ROW, NOT_ROWS, BadRow)
    WHOLE = ("whole", RIGHT_WHOLE, NOT_WHOLES, BadWhole)
    N = ("n", 3, NOT_INTEGERS + [-1, 9, 10 ** 99, -10 ** 99], BadCount)

    def test_rows(self):
        check_wrongs(self, mixed, [self.RINGS, ("one", RIGHT_ROW, NOT_ROWS, BadRow), ("other", RIGHT_ROW, NOT_ROWS, BadRow)])
        check_wrongs(self, moved, [self.RINGS, self.ROW, ("place", (1, 2), NOT_PLACES, BadPlace)])
        check_wrongs(self, power, [self.RINGS, self.ROW, self.N])
        for function in [mirrored, turned_row, judge_undone]:
            check_wrongs(self, function, [self.RINGS, self.ROW])

    def test_others(self):
        check_wrongs(self, single, [self.RINGS])
        check_wrongs(self, judge_whole, [self.RINGS, self.WHOLE])
        check_wrongs_beside(self, undone_holds, [self.RINGS, self.ROW])
        check_wrongs_beside(self, whole_holds, [self.RINGS, self.WHOLE])


if __name__ == "__main__":
    unittest.main()
