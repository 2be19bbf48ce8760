"""Heard voices: what fits them, against a slow way with numbers, and certificates of all three kinds."""

import itertools
import random
import unittest

from ringvoices.errors import BadCount, BadHeard, BadRings, BadRow
from ringvoices.heard import fits, heard_holds, is_heard, judge_heard, slips, sure_items
from ringvoices.numbers import number_of, plus, times, turn
from ringvoices.rings import all_places, order_of, seat_of, size_of
from ringvoices.telling import does_tell, judge_telling, least_telling
from ringvoices.voices import filled, is_row, row_of, voices
from tests.checking import (DESK, NOT_COUNTS, NOT_PAIRS, NOT_RINGS, NOT_ROWS, NOT_SLIPS, RIGHT_PAIRS, RIGHT_ROW,
                            check_any_value, check_wrongs, check_wrongs_beside, same)
from tests.oracle import (PRIME, changed, is_strict_number, is_strict_place, is_strict_row, pair, random_number, slow_solutions,
                          whole, zero)

TINY_RINGS = [(2,), (3,), (4,), (2, 2)]
MIDDLE_RINGS = [(5,), (6,), (2, 3), (3, 2)]
GREAT_RINGS = MIDDLE_RINGS + [(7,)]
COUNTS = [(1, 0), (2, 0), (3, 0), (1, 1), (2, 1)]


def some_row(rings, many, dice, digits=2):
    """A row with many filled places."""
    order, row = order_of(rings), [zero(order_of(rings))] * size_of(rings)
    for at in dice.sample(range(len(row)), many):
        row[at] = dice.choice((whole(order, 1), whole(order, -2), turn(order, 1), number_of(order, (3,), 2),
                               random_number(order, dice, digits, digits)))
        if not any(row[at][0]):
            row[at] = whole(order, 7)
    return tuple(row)


def heard_of(rings, row, labels, wrong=(), dice=None):
    """The voices of a row with some labels, those with the wrong ones heard otherwise."""
    order, sounds, found = order_of(rings), voices(rings, row), []
    for label in labels:
        number = sounds[seat_of(rings, label)]
        if label in wrong:
            number = plus(order, number, dice.choice((whole(order, 1), whole(order, -3), turn(order, 1))))
        found.append((label, number))
    return tuple(found)


def some_heard(rings, k, dice):
    """Heard voices of each sort, with lots of any size: right ones, with slips, and any."""
    every, order = all_places(rings), order_of(rings)
    labels = tuple(place for place in every if dice.random() < dice.choice((.3, .6, .9)))
    row = some_row(rings, dice.randrange(min(k, len(every)) + 1), dice)
    wrong = dice.sample(labels, min(len(labels), dice.randrange(3)))
    found = [(), heard_of(rings, row, labels), heard_of(rings, row, every), heard_of(rings, row, labels, wrong, dice),
             heard_of(rings, row, every, every[-1:], dice)]
    found.append(tuple((label, dice.choice((zero(order), whole(order, 1), turn(order, 1)))) for label in labels))
    return found


def slow_rows(rings, heard, k, e):
    """Rows that fit, whose items have in common what those of all that fit have: system by system, with numbers."""
    order, every = order_of(rings), all_places(rings)
    found = []
    for places in itertools.combinations(every, k):
        for right in itertools.combinations(heard, max(0, len(heard) - e)):
            lines = [[turn(order, pair(rings, x, label)) for x in places] + [number] for label, number in right]
            for items in slow_solutions(order, lines, k):
                laid = dict(zip(places, items))
                row = tuple(laid.get(place, zero(order)) for place in every)
                found += [] if row in found else [row]
    return found


def is_strict_heard(rings, thing):
    if type(thing) is not tuple:
        return False
    if not all(type(part) is tuple and len(part) == 2 and is_strict_place(rings, part[0]) for part in thing):
        return False
    labels = [part[0] for part in thing]
    return labels == sorted(set(labels)) and all(is_strict_number(order_of(rings), part[1]) for part in thing)


def fits_by_voices(rings, row, heard, k, e):
    sounds = voices(rings, row)
    unlike = [label for label, number in heard if sounds[seat_of(rings, label)] != number]
    return sum(any(tops) for tops, _ in row) <= k and len(unlike) <= e


def expected(rings, heard, k, e, rows, thing):
    """Whether a thing is a certificate, the rows being those of slow_rows."""
    if type(thing) is not tuple or thing == () or type(thing[0]) is not str:
        return False
    if len(thing) == 1:
        return thing[0] == "none" and rows == []
    if not all(is_strict_row(rings, row) and fits_by_voices(rings, row, heard, k, e) for row in thing[1:]):
        return False
    if len(thing) == 2:
        return thing[0] == "one" and len(rows) == 1
    return len(thing) == 3 and thing[0] == "two" and thing[1] != thing[2]


class Heard(unittest.TestCase):

    def test_is_heard(self):
        for rings in TINY_RINGS + GREAT_RINGS + [(8,), (9,), (10,), (11,), (12,), (2, 6), (3, 4), (2, 2, 3), (2, 2, 2)]:
            order, every, dice = order_of(rings), all_places(rings), random.Random(f"{rings}")
            for part in (0, .3, .6, 1):
                heard = tuple((label, random_number(order, dice, 99, 99)) for label in every if dice.random() < part)
                self.assertIs(is_heard(rings, heard), True)
                self.assertIs(is_heard(rings, heard[::-1]), len(heard) < 2)
                self.assertIs(is_heard(rings, heard + heard[:1]), heard == ())
                self.assertIs(is_heard(rings, list(heard)), False)

    def test_nearly_right_ones(self):
        for rings, heard in [((2, 3), RIGHT_PAIRS), ((2,), (((0,), ((1,), 1)), ((1,), ((0,), 1)))), ((3,), ())]:
            for thing in changed(heard):
                self.assertIs(is_heard(rings, thing), is_strict_heard(rings, thing), thing)

    def test_any_value(self):
        for thing in NOT_PAIRS:
            self.assertIs(is_heard((2, 3), thing), False)
        self.assertIs(is_heard((2, 3), thing=RIGHT_PAIRS), True)


class Fits(unittest.TestCase):

    def test_slips(self):
        for rings in TINY_RINGS + GREAT_RINGS:
            every, dice = all_places(rings), random.Random(f"{rings}")
            for _ in range(12):
                row = some_row(rings, dice.randrange(size_of(rings) + 1), dice, dice.choice((2, 99)))
                labels = tuple(label for label in every if dice.random() < .7)
                wrong = tuple(label for label in labels if dice.random() < .3)
                heard = heard_of(rings, row, labels, wrong, dice)
                self.assertTrue(same(slips(rings, row, heard), wrong))
                many = len(filled(rings, row))
                for k, e in itertools.product(range(1, size_of(rings) + 1), (0, 1, 2, 3, 10 ** 99)):
                    self.assertIs(fits(rings, row, heard, k, e), many <= k and len(wrong) <= e)

    def test_edges(self):
        for rings in TINY_RINGS + GREAT_RINGS:
            order, every = order_of(rings), all_places(rings)
            zeros = (zero(order),) * len(every)
            self.assertIs(fits(rings, zeros, (), 1, 0), True)
            self.assertEqual(slips(rings, zeros, ()), ())
            ones = tuple((label, whole(order, 1)) for label in every)
            self.assertEqual(slips(rings, zeros, ones), every)
            self.assertIs(fits(rings, zeros, ones, 1, len(every)), True)
            self.assertIs(fits(rings, zeros, ones, 1, len(every) - 1), False)
            single = (whole(order, 1),) + zeros[1:]
            self.assertIs(fits(rings, single, ones, 1, 0), True)
            self.assertIs(fits(rings, (whole(order, 1),) * len(every), ones[:1], len(every) - 1, 1), False)


class Judge(unittest.TestCase):

    def check(self, rings, heard, k, e, rows=None):
        rows = slow_rows(rings, heard, k, e) if rows is None else rows
        found = judge_heard(rings, heard, k, e)
        self.assertTrue(same(found, judge_heard(rings, heard, k, e)))
        self.assertEqual(found[0], ("none", "one", "two")[min(2, len(rows))])
        self.assertTrue(expected(rings, heard, k, e, rows, found), found)
        for row in found[1:]:
            self.assertIs(is_row(rings, row) and fits(rings, row, heard, k, e), True)
        self.assertIs(heard_holds(rings, heard, k, e, found), True)
        for thing in [("none",), *[("one", row) for row in rows[:2]], ("two", *rows[:2])]:
            self.assertIs(heard_holds(rings, heard, k, e, thing), expected(rings, heard, k, e, rows, thing))
        sure = sure_items(rings, heard, k, e)
        self.assertTrue(same(sure, sure_items(rings, heard, k, e)))
        self.assertTrue(same(sure, self.slow_sure(rings, rows)))
        return found[0]

    def slow_sure(self, rings, rows):
        if not rows:
            return None
        return tuple((place, items[0]) for place, items in zip(all_places(rings), zip(*rows)) if len(set(items)) == 1)

    def test_small_ones(self):
        words = []
        for rings in TINY_RINGS + MIDDLE_RINGS:
            dice = random.Random(f"{rings}")
            for k, e in COUNTS:
                if k <= size_of(rings):
                    for heard in some_heard(rings, k, dice) + some_heard(rings, k, dice):
                        words.append(self.check(rings, heard, k, e))
        self.assertTrue(min(words.count(word) for word in ("none", "one", "two")) > 20)

    def test_seven(self):
        dice = random.Random(7)
        for k, e in COUNTS:
            for heard in some_heard((7,), k, dice)[dice.randrange(2)::2]:
                self.check((7,), heard, k, e)

    def test_zeros_and_ones(self):
        # All heard voices that are made of a few numbers.
        for rings in [(2,), (3,)]:
            order, every = order_of(rings), all_places(rings)
            for labels in [lot for many in range(len(every) + 1) for lot in itertools.combinations(every, many)]:
                for numbers in itertools.product((zero(order), whole(order, 1), turn(order, 1)), repeat=len(labels)):
                    for k, e in [(1, 0), (1, 1), (2, 0), (2, 1)]:
                        self.check(rings, tuple(zip(labels, numbers)), k, e)

    def test_all_slips(self):
        for rings in TINY_RINGS + GREAT_RINGS:
            order, every = order_of(rings), all_places(rings)
            for heard in [(), ((every[-1], whole(order, 5)),)]:
                self.assertEqual(self.check(rings, heard, 1, 1), "two")
            self.assertEqual(self.check(rings, (), 1, 0), "two")
            self.assertEqual(self.check(rings, (), 2, 0), "two")

    def test_all_filled(self):
        for rings in TINY_RINGS + [(5,), (7,)]:
            n, dice = size_of(rings), random.Random(f"{rings}")
            row = some_row(rings, n, dice)
            heard = heard_of(rings, row, all_places(rings))
            self.assertTrue(same(judge_heard(rings, heard, n, 0), ("one", row)))
            self.assertEqual(judge_heard(rings, heard[1:], n, 0)[0], "two")
            self.assertIs(sure_items(rings, heard[1:], n, 0), sure_items(rings, (), n, 0))
            self.assertEqual(judge_heard(rings, heard, n, 1)[0], "two")

    def test_where_labels_tell(self):
        # From right and wrong voices of a row just this row is told, if the labels tell it.
        for rings in TINY_RINGS + GREAT_RINGS:
            every, dice = all_places(rings), random.Random(f"{rings}")
            for k, e in COUNTS:
                labels = least_telling(rings, k, e) if k <= len(every) else None
                for digits in (2, 99):
                    if labels is None:
                        continue
                    more = tuple(sorted({*labels, dice.choice(every)}))
                    for told in (labels, more):
                        row = some_row(rings, dice.randrange(k + 1), dice, digits)
                        for wrong in range(e + 1):
                            heard = heard_of(rings, row, told, dice.sample(told, wrong), dice)
                            self.assertTrue(same(judge_heard(rings, heard, k, e), ("one", row)))
                            self.assertTrue(same(sure_items(rings, heard, k, e), tuple(zip(every, row))))
                            self.assertIs(heard_holds(rings, heard, k, e, ("one", row)), True)

    def test_where_labels_do_not_tell(self):
        for rings in TINY_RINGS + GREAT_RINGS:
            every, dice = all_places(rings), random.Random(f"{rings}")
            for k, e in COUNTS:
                for _ in range(6 if k <= len(every) else 0):
                    labels = tuple(label for label in every if dice.random() < .6)
                    if does_tell(rings, labels, k, e):
                        continue
                    _, one, other = judge_telling(rings, labels, k, e)
                    # As many voices of either as wrong ones are allowed: both fit what was heard.
                    unlike = slips(rings, one, heard_of(rings, other, labels))
                    of_other = dict(heard_of(rings, other, unlike[:len(unlike) // 2]))
                    heard = tuple((label, of_other.get(label, number)) for label, number in heard_of(rings, one, labels))
                    self.assertIs(fits(rings, one, heard, k, e) and fits(rings, other, heard, k, e), True)
                    self.assertEqual(judge_heard(rings, heard, k, e)[0], "two")
                    self.assertIs(heard_holds(rings, heard, k, e, ("two", one, other)), True)
                    self.assertIs(heard_holds(rings, heard, k, e, ("one", one)), False)
                    self.assertIs(heard_holds(rings, heard, k, e, ("none",)), False)

    def test_great_integers(self):
        for rings in [(5,), (6,), (7,)]:
            order, every, dice = order_of(rings), all_places(rings), random.Random(f"{rings}")
            row = some_row(rings, 2, dice, 99)
            heard = heard_of(rings, row, every)
            self.assertTrue(same(judge_heard(rings, heard, 2, 1), ("one", row)))
            little = number_of(order, (1,), 10 ** 99)
            wrong = heard[:-1] + ((heard[-1][0], plus(order, heard[-1][1], little)),)
            self.assertEqual(judge_heard(rings, wrong, 2, 0), ("none",))
            self.assertTrue(same(judge_heard(rings, wrong, 2, 1), ("one", row)))
            random_ones = tuple((label, random_number(order, dice, 99, 99)) for label in every)
            self.assertEqual(judge_heard(rings, random_ones, 2, 1), ("none",))
            self.assertIsNone(sure_items(rings, random_ones, 3, 0))

    def test_multiples_of_a_prime(self):
        # Modulo the prime these voices are those of a row, but they are not.
        for prime in (2, 3, 5, 7, PRIME, 10 ** 99):
            for rings in [(2,), (3,), (5,), (6,), (2, 2)]:
                order, every, dice = order_of(rings), all_places(rings), random.Random(f"{rings}")
                row = some_row(rings, 1, dice)
                heard = heard_of(rings, row, every)
                for at in range(len(every)):
                    more = times(order, whole(order, prime), turn(order, 1))
                    wrong = heard[:at] + ((every[at], plus(order, heard[at][1], more)),) + heard[at + 1:]
                    self.check(rings, wrong, 1, 0)
                    self.assertIs(heard_holds(rings, wrong, 1, 0, ("none",)), True)
                self.check(rings, heard, 1, 0)

    def test_prime_bottoms(self):
        for rings in [(3,), (5,), (6,), (7,)]:
            order, every, n = order_of(rings), all_places(rings), size_of(rings)
            row = (number_of(order, (3, 1), PRIME), number_of(order, (1, 2), 7)) + (zero(order),) * (n - 2)
            self.assertTrue(same(judge_heard(rings, heard_of(rings, row, every), 2, 0), ("one", row)))
            wrong = heard_of(rings, row, every[:-1]) + ((every[-1], number_of(order, (1,), PRIME)),)
            self.check(rings, wrong, 2, 0)

    def test_by_hand(self):
        two, nil = ((2,), 1), ((0,), 1)
        self.assertEqual(judge_heard((2,), (((0,), two), ((1,), two)), 1, 0), ("one", (two, nil)))
        self.assertEqual(judge_heard((2,), (((0,), two), ((1,), ((-2,), 1))), 1, 0), ("one", (nil, two)))
        self.assertEqual(judge_heard((2,), (((0,), two), ((1,), nil)), 1, 0), ("none",))
        self.assertEqual(judge_heard((2,), (((0,), two),), 1, 0)[0], "two")
        self.assertEqual(sure_items((2,), (((0,), two), ((1,), two)), 1, 0), (((0,), two), ((1,), nil)))
        self.assertEqual(sure_items((2,), (((0,), two),), 1, 0), ())
        self.assertIsNone(sure_items((2,), (((0,), two), ((1,), nil)), 1, 0))
        # The voices with all even labels tell the item and its opposite place together.
        heard = heard_of((4,), row_of((4,), (0, 3, 0, 0)), ((0,), (2,)))
        self.assertEqual(sure_items((4,), heard, 1, 0), (((0,), ((0, 0), 1)), ((2,), ((0, 0), 1))))


class Certificates(unittest.TestCase):

    def test_nearly_right_ones(self):
        two = ((2,), 1)
        cases = [((2,), (((0,), two), ((1,), two)), 1, 0), ((2,), (((0,), two),), 1, 0), ((2,), (((0,), two),), 2, 0),
                 ((2,), (((0,), two), ((1,), ((1,), 1))), 1, 0), ((2,), (((0,), two), ((1,), ((1,), 1))), 1, 1),
                 ((3,), heard_of((3,), row_of((3,), (0, 1, 0)), ((0,), (2,))), 1, 0),
                 ((3,), heard_of((3,), row_of((3,), (0, 1, 0)), all_places((3,))), 1, 1)]
        for case in cases:
            rows = slow_rows(*case)
            found = judge_heard(*case)
            some = rows[:2] or [row_of(case[0], (0,) * size_of(case[0]))]
            for thing in [*changed(found), ("none",), ("one", some[0]), ("one", some[-1]), ("two", some[0], some[-1]),
                          ("two", some[0]), ("two", some[0], some[0]), ("none", some[0]), ("one", some[0], some[-1]),
                          ["none"], "none", ("None",), ("two", *some, *some), ("one",), ("two",), ("none", ())]:
                self.assertIs(heard_holds(*case, thing), expected(*case, rows, thing), (case, thing))

    def test_rows_that_nearly_fit(self):
        rings, row = (5,), row_of((5,), (0, 3, 0, 1, 0))
        heard = heard_of(rings, row, ((0,), (1,), (2,), (3,)))
        self.assertIs(heard_holds(rings, heard, 2, 0, ("one", row)), True)
        self.assertIs(heard_holds(rings, heard, 1, 0, ("one", row)), False)
        self.assertIs(heard_holds(rings, heard, 2, 0, ("two", row, row)), False)
        self.assertIs(heard_holds(rings, heard, 2, 0, ("one", row_of(rings, (0, 3, 0, 2, 0)))), False)
        self.assertIs(heard_holds(rings, heard, 1, 0, ("none",)), True)
        self.assertIs(heard_holds(rings, heard, 2, 0, ("none",)), False)

    def test_great_ones(self):
        rings, order = (5,), 5
        for factor in (number_of(order, (10 ** 99, 1), 3), number_of(order, (1, 0, 2), 10 ** 98 + 1)):
            one = (zero(order), factor) + (zero(order),) * 3
            heard = heard_of(rings, one, ((1,),))
            # What stands at another place, turned back, has the same voice with this label.
            other = (times(order, factor, turn(order, 1)),) + (zero(order),) * 4
            self.assertIs(heard_holds(rings, heard, 1, 0, ("two", one, other)), True)
            self.assertIs(heard_holds(rings, heard, 1, 0, ("two", one, (factor,) + (zero(order),) * 4)), False)

    def test_any_value(self):
        row = row_of((2, 3), (5, 0, 0, 0, 0, 0))
        heard = heard_of((2, 3), row, all_places((2, 3)))
        more = [("one", RIGHT_ROW), ("two", RIGHT_ROW, RIGHT_ROW), ("two", row, DESK), ("two", row, row), ("two", row)]
        check_any_value(self, heard_holds, ((2, 3), heard, 1, 0), more)
        check_any_value(self, heard_holds, ((2, 3), (), 1, 0), more[:2] + [("one", row)])
        self.assertIs(heard_holds((2, 3), heard, 1, 0, thing=("one", row)), True)


class Wrongs(unittest.TestCase):

    RINGS = ("rings", (2, 3), NOT_RINGS, BadRings)
    ROW = ("row", RIGHT_ROW, NOT_ROWS, BadRow)
    HEARD = ("heard", RIGHT_PAIRS, NOT_PAIRS, BadHeard)
    COUNTS = [("k", 2, NOT_COUNTS, BadCount), ("e", 1, NOT_SLIPS, BadCount)]

    def test_rows(self):
        check_wrongs(self, fits, [self.RINGS, self.ROW, self.HEARD, *self.COUNTS])
        check_wrongs(self, slips, [self.RINGS, self.ROW, self.HEARD])

    def test_heard(self):
        for function in [judge_heard, sure_items]:
            check_wrongs(self, function, [self.RINGS, self.HEARD, *self.COUNTS])
        check_wrongs_beside(self, heard_holds, [self.RINGS, self.HEARD, *self.COUNTS])


if __name__ == "__main__":
    unittest.main()
