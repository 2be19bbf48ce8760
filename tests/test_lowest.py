"""Filled places and sounding voices: the formula, rows within lots, and their certificates."""

import itertools
import random
import unittest

from ringvoices.errors import BadCount, BadLot, BadRings
from ringvoices.lowest import base_of, is_base, judge_pair, least, least_row, pair_holds, room
from ringvoices.numbers import number_of, plus, times, turn
from ringvoices.rings import all_places, lot_times, moved_lot, order_of, size_of, subgroup
from ringvoices.voices import filled, is_row, row_of, sounding
from tests.checking import (NOT_COUNTS, NOT_LOTS, NOT_RINGS, RIGHT_ROW, check_any_value, check_wrongs,
                            check_wrongs_beside, same)
from tests.oracle import (PRIME, changed, image, is_strict_number, is_strict_place, is_strict_row, pair, random_number,
                          rank, row_images, slow_room, turn_image, units, voice_images, whole, zero)
from tests.test_rings import ALL_RINGS

TINY_RINGS = [(2,), (3,), (4,), (2, 2)]
SMALL_RINGS = TINY_RINGS + [(5,), (6,), (2, 3), (3, 2), (7,), (8,), (2, 4), (2, 2, 2)]
SOME_RINGS = SMALL_RINGS + [(9,), (3, 3), (10,), (12,), (2, 6), (3, 4), (2, 2, 3)]


def all_lots(rings, most=None):
    places = all_places(rings)
    many = len(places) if most is None else most
    return [lot for k in range(many + 1) for lot in itertools.combinations(places, k)]


def some_lots(rings):
    """Lots of each sort: none, all, few, many, subgroups, and those moved."""
    places, dice = all_places(rings), random.Random(f"{rings}")
    found = [(), places, places[:1], places[1:], places[-2:], places[::2]]
    for one in places[1:4] + places[-1:]:
        group = subgroup(rings, (one,))
        found += [group, moved_lot(rings, group, places[-1]), lot_times(rings, places[1:3], 2)]
    return found + [tuple(place for place in places if dice.random() < part) for part in (.3, .5, .7, .8) for _ in "ab"]


def some_pairs(rings, many):
    lots, dice = some_lots(rings), random.Random(f"{rings} {many}")
    found = [((), ()), (lots[1], lots[1]), ((), lots[1]), (lots[1], ()), (lots[2], lots[1]), (lots[1], lots[2])]
    return found + [(dice.choice(lots), dice.choice(lots)) for _ in range(many)]


def slow_silences(rings, places, labels):
    """The places and the labels that no row within has filled and sounding, by rooms alone."""
    most = slow_room(rings, places, labels)
    dull_places = [one for one in places
                   if slow_room(rings, tuple(other for other in places if other != one), labels) == most]
    dull_labels = [one for one in labels
                   if slow_room(rings, places, tuple(other for other in labels if other != one)) == most]
    return dull_places, dull_labels


def weigh(rings, ones, others, at, weights, sign):
    """Whether weights are as [6.3] tells, by images at every exchange."""
    order = order_of(rings)
    if not is_strict_place(rings, at) or at not in ones or type(weights) is not tuple or len(weights) != len(others):
        return False
    if not all(is_strict_number(order, weight) for weight in weights):
        return False
    for j in units(order):
        for one in ones:
            total = sum(image(order, *weight, j) * turn_image(order, sign * pair(rings, one, other), j)
                        for weight, other in zip(weights, others))
            if (total - (one == at)) % PRIME != 0:
                return False
    return True


def expected(rings, places, labels, thing):
    """Whether a thing is a certificate of the pair, by its form and by images."""
    if type(thing) is not tuple or len(thing) not in (2, 3) or type(thing[0]) is not str:
        return False
    every = all_places(rings)
    if len(thing) == 2:
        if thing[0] != "row" or not is_strict_row(rings, thing[1]):
            return False
        items, heard = row_images(rings, thing[1]), voice_images(rings, thing[1])
        return ([part != 0 for part in items] == [place in places for place in every]
                and [part != 0 for part in heard] == [label in labels for label in every])
    if thing[0] == "place":
        return weigh(rings, places, [one for one in every if one not in labels], thing[1], thing[2], 1)
    return thing[0] == "label" and weigh(rings, labels, [one for one in every if one not in places], thing[1], thing[2], -1)


def image_room(rings, places, labels):
    """The room modulo the prime: at least the room."""
    order = order_of(rings)
    lines = [[turn_image(order, pair(rings, place, label)) for place in places]
             for label in all_places(rings) if label not in labels]
    steps = []
    for line in lines:
        for at, step in steps:
            line = [(a - line[at] * b) % PRIME for a, b in zip(line, step)]
        at = next((k for k, part in enumerate(line) if part), None)
        if at is not None:
            back = pow(line[at], -1, PRIME)
            steps.append((at, [part * back % PRIME for part in line]))
    return len(places) - len(steps)


class Least(unittest.TestCase):

    def plain_least(self, n, k):
        found = []
        for p in range(2, n + 1):
            for d in range(1, n + 1):
                if all(p % q for q in range(2, p)) and n % (d * p) == 0:
                    found += [n // (d * p) * (p + 1 - j) for j in range(1, p + 1) if d * j <= k]
        return min(found)

    def test_formula(self):
        for n in range(2, 61):
            for k in range(1, n + 1):
                self.assertTrue(same(least((n,), k), self.plain_least(n, k)))

    def test_all_rings(self):
        for rings in ALL_RINGS:
            n = size_of(rings)
            for k in {1, 2, n // 2, n - 1, n}:
                self.assertEqual(least(rings, k), least((n,), k))

    def test_edges(self):
        for rings in ALL_RINGS:
            n = size_of(rings)
            self.assertEqual((least(rings, 1), least(rings, n)), (n, 1))
        for p in (2, 3, 5, 7, 11, 59):
            self.assertEqual([least((p,), k) for k in range(1, p + 1)], [p + 1 - k for k in range(1, p + 1)])

    def test_by_hand(self):
        self.assertEqual([least((12,), k) for k in range(1, 13)], [12, 6, 4, 3, 3, 2, 2, 2, 2, 2, 2, 1])
        self.assertEqual([least((2, 2), k) for k in (1, 2, 3, 4)], [4, 2, 2, 1])

    def test_no_row_has_fewer(self):
        for rings in SMALL_RINGS:
            every, origin = all_places(rings), all_places(rings)[0]
            for k in range(1, len(every) + 1):
                few = least(rings, k) - 1
                # A row that is moved has the same sounding voices: one filled place is the origin.
                for others in itertools.combinations(every[1:], k - 1):
                    for labels in itertools.combinations(every, few):
                        self.assertEqual(image_room(rings, (origin, *others), labels), 0)

    def test_least_row(self):
        for rings in SOME_RINGS + [(11,), (13,), (16,), (2, 8), (15,), (18,), (2, 2, 5)]:
            for k in range(1, size_of(rings) + 1):
                row = least_row(rings, k)
                self.assertIs(is_row(rings, row), True)
                self.assertTrue(1 <= len(filled(rings, row)) <= k)
                self.assertEqual(len(sounding(rings, row)), least(rings, k))
                self.assertEqual(sum(part != 0 for part in voice_images(rings, row)), least(rings, k))
                self.assertTrue(same(least_row(rings, k), row))


class Rooms(unittest.TestCase):

    def test_all_pairs(self):
        for rings in TINY_RINGS:
            for places, labels in itertools.product(all_lots(rings), repeat=2):
                found = room(rings, places, labels)
                self.assertTrue(same(found, slow_room(rings, places, labels)))
                self.assertTrue(found >= max(0, len(places) + len(labels) - size_of(rings)))

    def test_some_pairs(self):
        for rings in SOME_RINGS[4:]:
            for places, labels in some_pairs(rings, 10):
                found = room(rings, places, labels)
                self.assertTrue(same(found, slow_room(rings, places, labels)))
                self.assertTrue(found >= max(0, len(places) + len(labels) - size_of(rings)))

    def test_most_pairs_of_six(self):
        for rings in [(6,), (2, 3)]:
            for places, labels in itertools.product(all_lots(rings)[::3], all_lots(rings)[::2]):
                self.assertEqual(room(rings, places, labels), image_room(rings, places, labels))

    def test_prime_lengths(self):
        for p in (2, 3, 5):
            for places, labels in itertools.product(all_lots((p,)), repeat=2):
                self.assertEqual(room((p,), places, labels), max(0, len(places) + len(labels) - p))
        for places, labels in itertools.product(some_lots((7,)), repeat=2):
            self.assertEqual(room((7,), places, labels), max(0, len(places) + len(labels) - 7))

    def test_edges(self):
        for rings in SOME_RINGS:
            every, n = all_places(rings), size_of(rings)
            for lot in some_lots(rings):
                self.assertEqual([room(rings, (), lot), room(rings, lot, ())], [0, 0])
                self.assertEqual([room(rings, every, lot), room(rings, lot, every)], [len(lot), len(lot)])
            for one in every[1:3]:
                group = subgroup(rings, (one,))
                barred = tuple(k for k in every if all(pair(rings, x, k) == 0 for x in group))
                self.assertEqual(room(rings, group, barred), 1)
                self.assertEqual(len(group) * len(barred), n)


class Bases(unittest.TestCase):

    def is_within(self, rings, row, places, labels):
        return set(filled(rings, row)) <= set(places) and set(sounding(rings, row)) <= set(labels)

    def check(self, rings, places, labels):
        found = base_of(rings, places, labels)
        self.assertTrue(same(found, base_of(rings, places, labels)))
        self.assertIs(type(found), tuple)
        self.assertEqual(len(found), slow_room(rings, places, labels))
        for row in found:
            self.assertIs(is_row(rings, row), True)
            self.assertTrue(self.is_within(rings, row, places, labels))
        self.assertEqual(rank(order_of(rings), list(found)), len(found))
        self.assertIs(is_base(rings, places, labels, found), True)
        return found

    def test_all_pairs(self):
        for rings in TINY_RINGS:
            for places, labels in itertools.product(all_lots(rings), repeat=2):
                self.check(rings, places, labels)

    def test_some_pairs(self):
        for rings in SOME_RINGS[4:]:
            for places, labels in some_pairs(rings, 5):
                self.check(rings, places, labels)

    def sum_of(self, rings, rows, factors):
        order = order_of(rings)
        total = [zero(order)] * size_of(rings)
        for row, factor in zip(rows, factors):
            total = [plus(order, one, times(order, factor, other)) for one, other in zip(total, row)]
        return tuple(total)

    def test_other_bases(self):
        for rings in SOME_RINGS:
            order, dice = order_of(rings), random.Random(f"{rings}")
            for places, labels in some_pairs(rings, 6):
                base = base_of(rings, places, labels)
                if len(base) > 1:
                    self.assertIs(is_base(rings, places, labels, base[::-1]), True)
                    factors = [[random_number(order, dice, 6, 2) for _ in base] for _ in base]
                    other = tuple(self.sum_of(rings, base, line) for line in factors)
                    is_one = rank(order, factors) == len(base)
                    self.assertIs(is_base(rings, places, labels, other), is_one)
                    alike = other[:-1] + (self.sum_of(rings, other, [turn(order, k) for k in range(len(base) - 1)]),)
                    self.assertIs(is_base(rings, places, labels, alike), False)
                    self.assertIs(is_base(rings, places, labels, base[1:] + base[1:2]), False)
                if base != ():
                    nil = (zero(order),) * size_of(rings)
                    for thing in (base[1:], base + base[:1], base[:-1] + (nil,), list(base), base[:-1] + (list(base[-1]),)):
                        self.assertIs(is_base(rings, places, labels, thing), False)
                    great = tuple(times(order, number_of(order, (10 ** 50, 3), 7), item) for item in base[0])
                    self.assertIs(is_base(rings, places, labels, (great,) + base[1:]), True)

    def test_great_integers(self):
        for rings in [(5,), (8,), (12,), (2, 6)]:
            every, order, dice = all_places(rings), order_of(rings), random.Random(f"{rings}")
            base = [tuple(random_number(order, dice, 99, 99) for _ in every) for _ in every]
            self.assertIs(is_base(rings, every, every, tuple(base)), True)
            self.assertIs(is_base(rings, every, every, (base[0],) * len(every)), False)

    def test_multiples_of_a_prime(self):
        # Modulo the prime all of these are alike or zeros, but they are no less a base.
        for prime in (2, 3, 61, PRIME, 10 ** 99):
            for rings in [(2,), (3,), (2, 2), (6,)]:
                every, order = all_places(rings), order_of(rings)
                rows = [row_of(rings, tuple(prime if at == k else 0 for at in range(len(every)))) for k in range(len(every))]
                self.assertIs(is_base(rings, every, every, tuple(rows)), True)
                rows = [row_of(rings, (1,) + tuple(prime if at == k else 0 for at in range(1, len(every))))
                        for k in range(len(every))]
                self.assertIs(is_base(rings, every, every, tuple(rows)), True)
                rows[0] = tuple(times(order, number_of(order, (0, prime), 7), item) for item in rows[1])
                self.assertIs(is_base(rings, every, every, tuple(rows)), False)

    def test_rows_that_are_not_within(self):
        self.assertIs(is_base((4,), ((0,),), all_places((4,)), (row_of((4,), (1, 0, 0, 0)),)), True)
        self.assertIs(is_base((4,), ((0,),), all_places((4,)), (row_of((4,), (0, 1, 0, 0)),)), False)
        self.assertIs(is_base((4,), ((0,),), all_places((4,)), (row_of((4,), (1, 1, 0, 0)),)), False)
        self.assertIs(is_base((4,), all_places((4,)), ((0,),), (row_of((4,), (1, 1, 1, 1)),)), True)
        self.assertIs(is_base((4,), all_places((4,)), ((0,),), (row_of((4,), (1, -1, 1, -1)),)), False)
        self.assertIs(is_base((4,), all_places((4,)), ((0,),), (row_of((4,), (2, 1, 1, 1)),)), False)
        self.assertIs(is_base((4,), ((0,), (2,)), ((0,), (2,)), (row_of((4,), (-3, 0, -3, 0)),)), True)
        self.assertIs(is_base((4,), ((0,), (2,)), ((1,), (3,)), (row_of((4,), (-3, 0, -3, 0)),)), False)

    def test_nearly_right_ones(self):
        order = 4
        for places, labels in [(((0,), (2,)), ((0,), (1,), (2,))), (all_places((4,)), all_places((4,))[:2]), ((), ())]:
            base = base_of((4,), places, labels)
            for thing in changed(base):
                good = type(thing) is tuple and len(thing) == len(base) and all(is_strict_row((4,), row) for row in thing)
                good = good and all(self.is_within((4,), row, places, labels) for row in thing)
                good = good and rank(order, list(thing)) == len(base)
                self.assertIs(is_base((4,), places, labels, thing), good, thing)

    def test_any_value(self):
        check_any_value(self, is_base, ((2, 3), ((0, 0),), all_places((2, 3))), [(RIGHT_ROW,), RIGHT_ROW, (RIGHT_ROW,) * 6])
        check_any_value(self, is_base, ((2, 3), all_places((2, 3)), ((0, 0),)), [(RIGHT_ROW,), [], ([],)])
        self.assertIs(is_base((2, 3), ((0, 0),), ((0, 0), (1, 1)), ()), True)
        for thing in [None, [], {}, "", 0, False, ((),), (None,), (RIGHT_ROW,)]:
            self.assertIs(is_base((2, 3), (), (), thing), False)
        self.assertIs(is_base((2, 3), (), (), thing=()), True)


class Pairs(unittest.TestCase):

    def check(self, rings, places, labels):
        found = judge_pair(rings, places, labels)
        self.assertTrue(same(found, judge_pair(rings, places, labels)))
        self.assertTrue(expected(rings, places, labels, found), found)
        self.assertIs(pair_holds(rings, places, labels, found), True)
        return found

    def test_all_pairs(self):
        for rings in TINY_RINGS:
            for places, labels in itertools.product(all_lots(rings), repeat=2):
                found = self.check(rings, places, labels)
                dull_places, dull_labels = slow_silences(rings, places, labels)
                if found[0] == "row":
                    self.assertEqual((dull_places, dull_labels), ([], []))
                else:
                    self.assertIn(found[1], dull_places if found[0] == "place" else dull_labels)

    def test_some_pairs(self):
        words = []
        for rings in SOME_RINGS[4:]:
            for places, labels in some_pairs(rings, 16):
                words.append(self.check(rings, places, labels)[0])
        self.assertTrue(min(words.count(word) for word in ("row", "place", "label")) > 10)

    def test_kinds(self):
        for rings in [(6,), (2, 3), (8,), (2, 2, 2), (9,), (12,)]:
            for places, labels in some_pairs(rings, 6):
                dull_places, dull_labels = slow_silences(rings, places, labels)
                self.assertEqual(judge_pair(rings, places, labels)[0] == "row", dull_places == dull_labels == [])

    def test_prime_lengths(self):
        for p in (2, 3, 5):
            for places, labels in itertools.product(all_lots((p,)), repeat=2):
                told = len(places) + len(labels) > p and () not in (places, labels) or places == labels == ()
                self.assertEqual(judge_pair((p,), places, labels)[0] == "row", told)
        for places, labels in itertools.product(some_lots((7,)), repeat=2):
            told = len(places) + len(labels) > 7 and () not in (places, labels) or places == labels == ()
            self.assertEqual(self.check((7,), places, labels)[0] == "row", told)

    def test_edges(self):
        for rings in SOME_RINGS:
            every, order = all_places(rings), order_of(rings)
            self.assertTrue(same(judge_pair(rings, (), ()), ("row", (zero(order),) * len(every))))
            for lot in some_lots(rings):
                if lot != ():
                    self.assertEqual(self.check(rings, (), lot)[0], "label")
                    self.assertEqual(self.check(rings, lot, ())[0], "place")
                    self.assertEqual(self.check(rings, lot, every)[0], "row")
                    self.assertEqual(self.check(rings, every, lot)[0], "row")

    def test_subgroups(self):
        for rings in SOME_RINGS:
            every = all_places(rings)
            for one in every[:5]:
                group = subgroup(rings, (one,))
                barred = tuple(k for k in every if all(pair(rings, x, k) == 0 for x in group))
                self.assertEqual(self.check(rings, group, barred)[0], "row")
                self.assertEqual(self.check(rings, moved_lot(rings, group, every[-1]), barred)[0], "row")
                if len(barred) > 1:
                    self.assertEqual(self.check(rings, group, barred[1:])[0], "place")
                if len(group) > 1:
                    self.assertEqual(self.check(rings, group[1:], barred)[0], "place")

    def test_never_both(self):
        for rings in TINY_RINGS[:3]:
            order = order_of(rings)
            for places, labels in itertools.product(all_lots(rings), repeat=2):
                kinds = {judge_pair(rings, places, labels)[0]}
                for at, others in [(one, len(all_places(rings)) - len(labels)) for one in places]:
                    for weights in itertools.product((zero(order), whole(order, 1), number_of(order, (1,), 2)), repeat=others):
                        if pair_holds(rings, places, labels, ("place", at, weights)):
                            kinds.add("place")
                self.assertFalse({"row", "place"} <= kinds or {"row", "label"} <= kinds)

    def test_nearly_right_ones(self):
        for rings, places, labels in [
                ((2,), ((0,),), ((0,),)), ((2,), (), ((1,),)), ((2,), ((0,), (1,)), ((0,),)), ((2,), (), ()),
                ((3,), ((0,), (1,)), ((1,), (2,))), ((3,), ((0,), (2,)), ((1,),)), ((3,), ((1,),), ((0,), (2,))),
                ((4,), ((0,), (2,)), ((0,), (2,))), ((4,), ((0,), (1,)), ((0,), (2,))), ((4,), ((1,), (3,)), ((1,), (3,))),
                ((2, 2), ((0, 0), (1, 1)), ((0, 0), (0, 1))), ((2, 3), ((0, 0), (1, 0)), ((0, 0), (0, 1), (0, 2)))]:
            found = self.check(rings, places, labels)
            for thing in changed(found):
                self.assertIs(pair_holds(rings, places, labels, thing), expected(rings, places, labels, thing), thing)
            for other in [("row", found[-1]), ("place",) + found[1:], ("label",) + found[1:], found + ((),)]:
                self.assertIs(pair_holds(rings, places, labels, other), expected(rings, places, labels, other), other)

    def test_weights_of_either_side(self):
        # The item at (0,) is zero in each row that is filled at one place at most and sounds at one label at most.
        half, less = ((1,), 1), ((-1,), 1)
        self.assertIs(pair_holds((2,), ((0,),), ((0,),), ("place", (0,), (half,))), True)
        self.assertIs(pair_holds((2,), ((0,),), ((0,),), ("label", (0,), (half,))), True)
        self.assertIs(pair_holds((2,), ((1,),), ((1,),), ("place", (1,), (half,))), True)
        self.assertIs(pair_holds((2,), ((1,),), ((0,),), ("place", (1,), (less,))), True)
        self.assertIs(pair_holds((2,), ((1,),), ((0,),), ("place", (1,), (half,))), False)
        self.assertIs(pair_holds((2,), ((0,),), ((1,),), ("label", (1,), (less,))), True)
        self.assertIs(pair_holds((2,), ((0,),), ((1,),), ("label", (1,), (half,))), False)
        for thing in [("place", (1,), (half,)), ("place", (0,), ()), ("place", (0,), (half, half)), ("place", (False,), (half,)),
                      ("place", [0], (half,)), ("place", (0,), [half]), ("place", (0,), (((True,), 1),)),
                      ("place", (0,), (((2,), 2),)), ("place", (0,), (((1,), True),)), ("Place", (0,), (half,)),
                      ["place", (0,), (half,)], ("place", (0,), (half,), 0), ("place", (2,), (half,)), ("row", (0,), (half,))]:
            self.assertIs(pair_holds((2,), ((0,),), ((0,),), thing), False, thing)

    def test_places_and_labels_of_neither(self):
        # Weights of zeros are right for all places but their own: this one has to be of the lot.
        for rings in SMALL_RINGS:
            every, nil = all_places(rings), zero(order_of(rings))
            for places, labels in [(every[:1], every[:1]), ((), every[:1]), (every[:1], ()), (every[1:], every[1:]), ((), ())]:
                for at in every:
                    for word, others in [("place", labels), ("label", places)]:
                        thing = (word, at, (nil,) * (len(every) - len(others)))
                        self.assertIs(pair_holds(rings, places, labels, thing), False)

    def test_signs_of_the_pairing(self):
        # On one ring of three places a turn taken once and -1 times are unlike.
        z, back = turn(3, 1), turn(3, 2)
        self.assertIs(pair_holds((3,), ((1,),), ((0,), (2,)), ("place", (1,), (back,))), True)
        self.assertIs(pair_holds((3,), ((1,),), ((0,), (2,)), ("place", (1,), (z,))), False)
        self.assertIs(pair_holds((3,), ((0,), (2,)), ((1,),), ("label", (1,), (z,))), True)
        self.assertIs(pair_holds((3,), ((0,), (2,)), ((1,),), ("label", (1,), (back,))), False)

    def test_rows_with_more_or_less(self):
        row = row_of((4,), (5, 0, 5, 0))
        evens = ((0,), (2,))
        self.assertIs(pair_holds((4,), evens, evens, ("row", row)), True)
        for places, labels in itertools.product(all_lots((4,)), repeat=2):
            self.assertIs(pair_holds((4,), places, labels, ("row", row)), places == labels == evens)

    def test_great_weights(self):
        great = 10 ** 99
        for top in (great, -great, great + 1):
            weights = (((top,), 1), ((1 - top,), 1))
            self.assertIs(pair_holds((3,), ((0,),), ((0,),), ("place", (0,), tuple(((t, 0), 1) for (t,), _ in weights))), True)
            self.assertIs(pair_holds((3,), ((0,),), ((0,),), ("place", (0,), (((top, 0), 1), ((top, 0), 1)))), False)

    def test_any_value(self):
        check_any_value(self, pair_holds, ((2, 3), ((0, 0),), ((0, 0), (1, 1))), [RIGHT_ROW, ("row", RIGHT_ROW)])
        check_any_value(self, pair_holds, ((2, 3), (), ()), [("row", RIGHT_ROW), ("row", (0,) * 6), ("place", (0, 0), ())])
        check_any_value(self, pair_holds, ((2, 3), all_places((2, 3)), all_places((2, 3))))
        self.assertIs(pair_holds((2, 3), (), (), thing=("row", (zero(6),) * 6)), True)


class Wrongs(unittest.TestCase):

    RINGS = ("rings", (2, 3), NOT_RINGS, BadRings)
    LOTS = [RINGS, ("places", ((0, 0), (1, 2)), NOT_LOTS, BadLot), ("labels", ((0, 1), (0, 2)), NOT_LOTS, BadLot)]

    def test_counts(self):
        for function in [least, least_row]:
            check_wrongs(self, function, [self.RINGS, ("k", 2, NOT_COUNTS, BadCount)])
            for k in range(1, 7):
                function((6,), k)

    def test_lots(self):
        for function in [room, base_of, judge_pair]:
            check_wrongs(self, function, self.LOTS)
        for function in [is_base, pair_holds]:
            check_wrongs_beside(self, function, self.LOTS)


if __name__ == "__main__":
    unittest.main()
