"""Voices that tell: lots of labels against a slow way, the two formulas, and certificates of both kinds."""

import functools
import itertools
import random
import unittest

from ringvoices.errors import BadCount, BadLot, BadRings
from ringvoices.lowest import least
from ringvoices.numbers import number_of, plus, turn
from ringvoices.rings import all_places, moved_lot, order_of, seat_of, size_of, subgroup
from ringvoices.telling import does_tell, judge_telling, least_telling, sure_number, telling_holds
from ringvoices.voices import row_of
from tests.checking import (DESK, NOT_COUNTS, NOT_LOTS, NOT_RINGS, NOT_SLIPS, RIGHT_ROW, check_any_value, check_wrongs,
                            check_wrongs_beside, same)
from tests.oracle import (PRIME, changed, is_strict_row, pair, random_number, rank, row_images, turn_image, voice_images,
                          whole, zero)

TINY_RINGS = [(2,), (3,), (4,), (2, 2)]
MIDDLE_RINGS = [(5,), (6,), (2, 3), (3, 2)]
GREAT_RINGS = [(7,), (8,), (2, 4), (4, 2), (2, 2, 2)]


def all_lots(rings):
    places = all_places(rings)
    return [lot for many in range(len(places) + 1) for lot in itertools.combinations(places, many)]


def some_lots(rings):
    places, dice = all_places(rings), random.Random(f"{rings}")
    found = [(), places, places[:1], places[1:], places[:-1], places[::2], places[:3], places[2:]]
    for one in places[1:4]:
        found += [subgroup(rings, (one,)), moved_lot(rings, subgroup(rings, (one,)), places[-1])]
    return found + [tuple(place for place in places if dice.random() < part) for part in (.4, .6, .8) for _ in "abc"]


@functools.lru_cache(maxsize=None)
def unlike_at_least(rings, filled, labels):
    """The fewest of the labels that sound in a row, other than zeros, that is filled within: exactly, by ranks."""
    order = order_of(rings)
    for few in range(len(labels) + 1):
        for silent in itertools.combinations(labels, len(labels) - few):
            lines = [[turn(order, pair(rings, place, label)) for place in filled] for label in silent]
            if rank(order, lines) < len(filled):
                return few
    return len(labels) + 1


def tells_by_definition(rings, labels, k, e):
    """Whether no two unlike rows, filled at k places each, are unlike at 2 e labels at most."""
    lots = list(itertools.combinations(all_places(rings), k))
    pairs = {tuple(sorted({*one, *other})) for one, other in itertools.product(lots, repeat=2)}
    return all(unlike_at_least(rings, both, labels) > 2 * e for both in pairs)


@functools.lru_cache(maxsize=None)
def is_bare(rings, most, labels):
    """Whether some row, other than zeros, with most filled places at most is silent at these labels: by images."""
    order = order_of(rings)
    for places in itertools.combinations(all_places(rings), most):
        lines, found = [[turn_image(order, pair(rings, x, label)) for label in labels] for x in places], 0
        for at in range(len(labels)):
            first = next((line for line in lines if line[at]), None)
            if first is not None:
                lines.remove(first)
                found, back = found + 1, pow(first[at], -1, PRIME)
                lines = [[(a - line[at] * back * b) % PRIME for a, b in zip(line, first)] for line in lines]
        if found < most:
            return True
    return False


def tells_by_images(rings, labels, k, e):
    """Whether each row with 2 k filled places at most sounds at more than 2 e labels."""
    most, many = min(2 * k, size_of(rings)), max(0, len(labels) - 2 * e)
    return not any(is_bare(rings, most, silent) for silent in itertools.combinations(labels, many))


def counts(rings):
    n = size_of(rings)
    return [(k, e) for k in range(1, n + 1) for e in sorted({0, 1, 2, n // 2, n // 2 + 1, n, 10 ** 99})]


def is_alike(rings, labels, k, e, thing):
    """Whether a thing is two such unlike rows, by its form and by images."""
    if type(thing) is not tuple or len(thing) != 3 or thing[0] != "alike" or type(thing[0]) is not str:
        return False
    if not is_strict_row(rings, thing[1]) or not is_strict_row(rings, thing[2]) or thing[1] == thing[2]:
        return False
    if any(sum(part != 0 for part in row_images(rings, row)) > k for row in thing[1:]):
        return False
    one, other = voice_images(rings, thing[1]), voice_images(rings, thing[2])
    return sum(one[seat_of(rings, label)] != other[seat_of(rings, label)] for label in labels) <= 2 * e


class Telling(unittest.TestCase):

    def check(self, rings, labels, k, e, tells):
        self.assertIs(does_tell(rings, labels, k, e), tells, (rings, labels, k, e))
        found = judge_telling(rings, labels, k, e)
        self.assertTrue(same(found, judge_telling(rings, labels, k, e)))
        if tells:
            self.assertTrue(same(found, ("tells",)))
        else:
            self.assertTrue(is_alike(rings, labels, k, e, found), found)
        self.assertIs(telling_holds(rings, labels, k, e, found), True)
        self.assertIs(telling_holds(rings, labels, k, e, ("tells",)), tells)

    def test_definition(self):
        for rings in TINY_RINGS:
            for labels in all_lots(rings):
                for k, e in counts(rings):
                    self.check(rings, labels, k, e, tells_by_definition(rings, labels, k, e))

    def test_more_by_definition(self):
        for rings in MIDDLE_RINGS[:2]:
            for labels in all_lots(rings)[::3]:
                for k, e in [(1, 0), (2, 0), (1, 1), (2, 1)]:
                    self.assertIs(does_tell(rings, labels, k, e), tells_by_definition(rings, labels, k, e))

    def test_rows_with_twice_as_many_places(self):
        for rings in MIDDLE_RINGS:
            for labels in all_lots(rings):
                for k, e in counts(rings)[:12]:
                    self.assertIs(does_tell(rings, labels, k, e), tells_by_images(rings, labels, k, e))
            for labels in some_lots(rings)[:12]:
                for k, e in counts(rings):
                    self.check(rings, labels, k, e, tells_by_images(rings, labels, k, e))

    def test_great_ones(self):
        for rings in GREAT_RINGS:
            for labels in some_lots(rings):
                for k, e in [(1, 0), (2, 0), (3, 0), (4, 0), (1, 1), (2, 1), (3, 1), (1, 2), (2, 2), (1, 3), (7, 0)]:
                    self.check(rings, labels, k, e, tells_by_images(rings, labels, k, e))

    def test_edges(self):
        for rings in TINY_RINGS + MIDDLE_RINGS + GREAT_RINGS:
            n, every = size_of(rings), all_places(rings)
            for k in sorted({1, n // 2 + 1, n}):
                self.check(rings, (), k, 0, False)
                self.check(rings, every, k, 0, True)
                self.check(rings, every, k, n, False)
                self.check(rings, every, k, 10 ** 99, False)
                self.check(rings, every[1:], k, 0, 2 * k < n)
            for labels in (every[:1], every[-1:]):
                self.check(rings, labels, 1, 0, False)
                self.check(rings, labels, n, 1, False)

    def test_subgroups(self):
        # Rows on a subgroup and on what is moved from it sound alike at the labels that bar it.
        for rings in TINY_RINGS + MIDDLE_RINGS + GREAT_RINGS:
            every = all_places(rings)
            for one in every[1:]:
                group = subgroup(rings, (one,))
                barred = tuple(k for k in every if all(pair(rings, x, k) == 0 for x in group))
                for lot in (barred, moved_lot(rings, barred, every[-1])):
                    self.assertIs(does_tell(rings, lot, 1, 0), False)
                    self.assertEqual(judge_telling(rings, lot, 1, 0)[0], "alike")

    def test_moved_lots(self):
        for rings in MIDDLE_RINGS + GREAT_RINGS:
            for labels in some_lots(rings)[8:14]:
                for k, e in [(1, 0), (2, 0), (1, 1)]:
                    told = {does_tell(rings, moved_lot(rings, labels, place), k, e) for place in all_places(rings)}
                    self.assertEqual(len(told), 1)

    def test_next_ones(self):
        # On one ring labels that follow one another tell, also around the origin.
        for n in range(2, 9):
            for k in range(1, n // 2 + 1):
                for first in range(n):
                    labels = tuple(sorted(((first + step) % n,) for step in range(2 * k)))
                    self.assertIs(does_tell((n,), labels, k, 0), True)
                    self.assertEqual(judge_telling((n,), labels[1:], k, 0)[0], "alike")

    def test_by_hand(self):
        self.assertIs(does_tell((4,), ((0,), (2,)), 1, 0), False)
        self.assertIs(does_tell((4,), ((0,), (1,)), 1, 0), True)
        self.assertIs(does_tell((2, 2), ((0, 0), (0, 1)), 1, 0), False)
        self.assertIs(does_tell((2, 2), ((0, 0), (0, 1), (1, 0)), 1, 0), True)
        self.assertIs(does_tell((5,), ((0,), (1,), (2,), (3,)), 1, 1), True)
        self.assertIs(does_tell((5,), ((0,), (1,), (2,)), 1, 1), False)
        self.assertIs(does_tell((2,), ((0,), (1,)), 1, 1), False)
        self.assertIs(does_tell((2,), ((1,),), 2, 0), False)


class Numbers(unittest.TestCase):

    def test_least_telling(self):
        for rings in TINY_RINGS + MIDDLE_RINGS + GREAT_RINGS[:2]:
            for k, e in counts(rings):
                telling = [lot for lot in all_lots(rings) if tells_by_images(rings, lot, k, e)]
                found = least_telling(rings, k, e)
                self.assertTrue(same(found, least_telling(rings, k, e)))
                if telling:
                    self.assertIn(found, telling)
                    self.assertEqual(len(found), min(map(len, telling)))
                    self.assertIs(does_tell(rings, found, k, e), True)
                else:
                    self.assertIsNone(found)

    def test_least_telling_of_great_ones(self):
        for rings in GREAT_RINGS:
            every, n = all_places(rings), size_of(rings)
            for k in range(1, n + 1):
                for e in (0, 1, 2, 3, 4):
                    found = least_telling(rings, k, e)
                    if found is None:
                        self.assertIs(does_tell(rings, every, k, e), False)
                    else:
                        self.assertIs(does_tell(rings, found, k, e), True)
                        for fewer in itertools.combinations(every, len(found) - 1):
                            self.assertFalse(tells_by_images(rings, fewer, k, e))

    def test_all_lots_of_as_many(self):
        for rings in TINY_RINGS + MIDDLE_RINGS + [(7,), (2, 2, 2)]:
            n = size_of(rings)
            for k, e in [(k, e) for k in range(1, n + 1) for e in range(3)]:
                formula = n + 1 - least(rings, min(2 * k, n)) + 2 * e
                for m in range(n + 1):
                    lots = itertools.combinations(all_places(rings), m)
                    self.assertEqual(all(tells_by_images(rings, lot, k, e) for lot in lots), m >= formula)
                self.assertTrue(same(sure_number(rings, k, e), formula if formula <= n else None))

    def test_sure_number_of_many(self):
        for rings in [(2,), (59,), (60,), (2, 30), (3, 4, 5), (2, 2, 3, 5), (7, 8), (16,), (2, 2, 2, 2)]:
            n = size_of(rings)
            for k, e in itertools.product(sorted({1, 2, 3, n // 2, n // 2 + 1, n - 1, n} - {0}), (0, 1, 2, 20, 10 ** 99)):
                if k <= n:
                    formula = n + 1 - least(rings, min(2 * k, n)) + 2 * e
                    self.assertTrue(same(sure_number(rings, k, e), formula if formula <= n else None))

    def test_by_hand(self):
        self.assertEqual([sure_number((6,), k, 0) for k in (1, 2, 3, 4, 5, 6)], [4, 5, 6, 6, 6, 6])
        self.assertEqual([sure_number((60,), 30, 0), sure_number((59,), 3, 0), sure_number((59,), 3, 26)], [60, 6, 58])
        self.assertIsNone(sure_number((59,), 3, 27))
        self.assertEqual(least_telling((2,), 2, 0), ((0,), (1,)))
        self.assertIsNone(least_telling((2,), 1, 1))


class Certificates(unittest.TestCase):

    CASES = [((2,), ((0,),), 1, 0), ((2,), ((0,), (1,)), 1, 0), ((3,), ((0,), (2,)), 1, 0), ((3,), ((1,), (2,)), 2, 0),
             ((4,), ((0,), (2,)), 1, 0), ((4,), ((0,), (1,), (2,)), 1, 1), ((2, 2), ((0, 0), (1, 1)), 1, 0),
             ((3,), (), 1, 0), ((3,), ((0,), (1,), (2,)), 1, 1)]

    def holds(self, rings, labels, k, e, thing):
        if type(thing) is tuple and len(thing) == 1 and thing[0] == "tells":
            return tells_by_definition(rings, labels, k, e)
        return is_alike(rings, labels, k, e, thing)

    def test_nearly_right_ones(self):
        for case in self.CASES:
            found = judge_telling(*case)
            for thing in [*changed(found), ("tells",), ("alike",) + found[1:], ("tells",) + found[1:], ["tells"], "tells",
                          ("Tells",), ("tells", ()), ("tells", "tells"), found[:2], found + found[1:]]:
                self.assertIs(telling_holds(*case, thing), self.holds(*case, thing), (case, thing))

    def test_rows_of_others(self):
        dice = random.Random(5)
        for rings in TINY_RINGS + MIDDLE_RINGS:
            order, n = order_of(rings), size_of(rings)
            found = 0
            for _ in range(60):
                labels = tuple(place for place in all_places(rings) if dice.random() < .5)
                k, e = dice.randrange(1, n + 1), dice.choice((0, 0, 1, 2))
                rows = []
                for _ in "ab":
                    row = [zero(order)] * n
                    for at in dice.sample(range(n), dice.randrange(min(n, k + 1) + 1)):
                        row[at] = dice.choice((whole(order, 1), whole(order, -1), turn(order, 1), random_number(order, dice)))
                    rows.append(tuple(row))
                thing = ("alike", *rows)
                good = is_alike(rings, labels, k, e, thing)
                self.assertIs(telling_holds(rings, labels, k, e, thing), good)
                found += good
            self.assertTrue(0 < found < 60)

    def test_one_filled_place_too_many(self):
        one, other = row_of((4,), (1, 0, 0, 0)), row_of((4,), (0, 0, 1, 0))
        labels = ((0,), (2,))
        self.assertIs(telling_holds((4,), labels, 1, 0, ("alike", one, other)), True)
        self.assertIs(telling_holds((4,), labels, 1, 0, ("alike", one, one)), False)
        more, others = row_of((4,), (1, 3, 0, 0)), row_of((4,), (0, 3, 1, 0))
        self.assertIs(telling_holds((4,), labels, 1, 0, ("alike", more, others)), False)
        self.assertIs(telling_holds((4,), labels, 2, 0, ("alike", more, others)), True)
        self.assertIs(telling_holds((4,), labels, 1, 0, ("alike", one, row_of((4,), (0, 0, 2, 0)))), False)

    def test_one_voice_too_many(self):
        zeros, one = row_of((5,), (0,) * 5), row_of((5,), (1, 0, 0, 0, 0))
        for many in range(6):
            labels = all_places((5,))[:many]
            for e in range(4):
                self.assertIs(telling_holds((5,), labels, 1, e, ("alike", zeros, one)), many <= 2 * e)
                self.assertIs(telling_holds((5,), labels, 1, e, ("alike", one, zeros)), many <= 2 * e)

    def test_great_integers(self):
        order, great = 4, number_of(4, (10 ** 99, 3), 10 ** 98 + 1)
        one = (great,) + (zero(order),) * 3
        other = (zero(order),) * 2 + (great, zero(order))
        self.assertIs(telling_holds((4,), ((0,), (2,)), 1, 0, ("alike", one, other)), True)
        nearly = (zero(order),) * 2 + (plus(order, great, number_of(order, (1,), 10 ** 99)), zero(order))
        self.assertIs(telling_holds((4,), ((0,), (2,)), 1, 0, ("alike", one, nearly)), False)

    def test_never_both(self):
        for rings in TINY_RINGS:
            rows = [tuple(items) for items in itertools.product((zero(order_of(rings)), whole(order_of(rings), 1)),
                                                                repeat=size_of(rings))]
            for labels in all_lots(rings):
                alike = any(telling_holds(rings, labels, 1, 0, ("alike", one, other))
                            for one, other in itertools.product(rows, repeat=2))
                self.assertFalse(alike and telling_holds(rings, labels, 1, 0, ("tells",)))

    def test_any_value(self):
        more = [("alike", RIGHT_ROW, RIGHT_ROW), ("alike", RIGHT_ROW), ("alike", list(RIGHT_ROW), RIGHT_ROW), (DESK,)]
        check_any_value(self, telling_holds, ((2, 3), ((0, 0),), 1, 0), more)
        check_any_value(self, telling_holds, ((2, 3), (), 6, 10 ** 99), more)
        self.assertIs(telling_holds((2, 3), all_places((2, 3)), 6, 0, thing=("tells",)), True)


class Wrongs(unittest.TestCase):

    RINGS = ("rings", (2, 3), NOT_RINGS, BadRings)
    LABELS = ("labels", ((0, 0), (1, 2)), NOT_LOTS, BadLot)
    COUNTS = [("k", 2, NOT_COUNTS, BadCount), ("e", 1, NOT_SLIPS, BadCount)]

    def test_lots(self):
        for function in [does_tell, judge_telling]:
            check_wrongs(self, function, [self.RINGS, self.LABELS, *self.COUNTS])
        check_wrongs_beside(self, telling_holds, [self.RINGS, self.LABELS, *self.COUNTS])

    def test_numbers(self):
        for function in [least_telling, sure_number]:
            check_wrongs(self, function, [self.RINGS, *self.COUNTS])


if __name__ == "__main__":
    unittest.main()
