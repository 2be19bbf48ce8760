"""Thinned and folded rows: by definition, by their voices and by hand, and which rows are told by steps."""

import itertools
import math
import random
import unittest

from ringvoices.coarse import coarse_rings, fallen, folded, is_steps, judge_thinning, thinned, thinning_holds
from ringvoices.errors import BadLot, BadPlace, BadRings, BadSteps, BadWhole
from ringvoices.numbers import lifted, number_of, plus, times
from ringvoices.rings import all_places, are_rings, order_of, seat_of, size_of
from ringvoices.voices import is_whole, row_of, voices
from tests.checking import (DESK, NOT_LOTS, NOT_PLACES, NOT_RINGS, NOT_STEPS, NOT_WHOLES, RIGHT_WHOLE, check_any_value,
                            check_wrongs, check_wrongs_beside, same)
from tests.oracle import PRIME, changed, is_strict_place, pair, slow_room, turn_image, units, zero

SMALL_RINGS = [(2,), (3,), (4,), (6,), (2, 2), (2, 3), (8,), (2, 4), (4, 2), (9,), (12,), (2, 6), (3, 4), (4, 4), (2, 2, 3)]
GREAT_RINGS = [(60,), (59,), (2, 30), (6, 10), (10, 6), (2, 2, 15), (2, 3, 10), (2, 2, 3, 5), (4, 15), (27,), (32,), (7, 8)]


def all_steps(rings):
    return list(itertools.product(*[[d for d in range(1, length) if length % d == 0] for length in rings]))


def some_lots(rings, many=4):
    places, dice = all_places(rings), random.Random(f"{rings} {many}")
    found = [(), places, places[:1], places[-1:], places[1:], places[:3], places[::2]]
    return found + [tuple(place for place in places if dice.random() < part) for part in (.05, .2, .5) for _ in range(many)]


def fall(rings, steps, label):
    return tuple(item % (length // step) for item, length, step in zip(label, rings, steps))


def some_wholes(rings):
    dice, n = random.Random(f"{rings}"), size_of(rings)
    found = [(0,) * n, (1,) + (0,) * (n - 1), tuple(range(n))]
    return found + [tuple(dice.randrange(-10 ** digits, 10 ** digits) for _ in range(n)) for digits in (1, 12, 99)]


def expected(rings, labels, steps, thing):
    """Whether a thing is a certificate, by its form."""
    if type(thing) is not tuple or thing == () or type(thing[0]) is not str:
        return False
    if len(thing) == 1:
        return thing[0] == "told" and len({fall(rings, steps, label) for label in labels}) == len(labels)
    if len(thing) != 3 or thing[0] != "pair" or not all(is_strict_place(rings, label) for label in thing[1:]):
        return False
    _, one, other = thing
    return one in labels and other in labels and one < other and fall(rings, steps, one) == fall(rings, steps, other)


class Steps(unittest.TestCase):

    def test_all_steps(self):
        for rings in SMALL_RINGS + GREAT_RINGS:
            right = all_steps(rings)
            self.assertIn((1,) * len(rings), right)
            for steps in right:
                self.assertIs(is_steps(rings, steps), True)
                coarse = coarse_rings(rings, steps)
                self.assertTrue(same(coarse, tuple(length // step for length, step in zip(rings, steps))))
                self.assertIs(are_rings(coarse), True)
            for steps in itertools.product(range(-1, 8), repeat=len(rings)):
                self.assertIs(is_steps(rings, steps), steps in right)
            self.assertIs(is_steps(rings, rings), False)
            self.assertIs(is_steps(rings, (1,) * (len(rings) + 1)), False)

    def test_any_value(self):
        for thing in NOT_STEPS:
            self.assertIs(is_steps((2, 3), thing), False)
        for thing in changed((2, 1)):
            good = type(thing) is tuple and [type(step) for step in thing] == [int, int] and thing in all_steps((4, 6))
            self.assertIs(is_steps((4, 6), thing), good, thing)
        self.assertIs(is_steps((4, 6), thing=(2, 3)), True)

    def test_fallen(self):
        for rings in SMALL_RINGS + GREAT_RINGS:
            for steps in all_steps(rings)[:6] + all_steps(rings)[-2:]:
                for label in all_places(rings):
                    self.assertTrue(same(fallen(rings, steps, label), fall(rings, steps, label)))

    def test_by_hand(self):
        self.assertEqual([coarse_rings((60,), (30,)), coarse_rings((6, 4), (1, 1)), coarse_rings((6, 10), (3, 5))],
                         [(2,), (6, 4), (2, 2)])
        self.assertEqual([fallen((12,), (3,), (7,)), fallen((4, 6), (2, 1), (3, 5)), fallen((5,), (1,), (4,))],
                         [(3,), (1, 5), (4,)])


class Rows(unittest.TestCase):

    def test_definition(self):
        for rings in SMALL_RINGS + GREAT_RINGS:
            for steps in all_steps(rings)[:5] + all_steps(rings)[-2:]:
                coarse = coarse_rings(rings, steps)
                for items in some_wholes(rings):
                    thin, fold = thinned(rings, items, steps), folded(rings, items, steps)
                    self.assertIs(is_whole(coarse, thin) and is_whole(coarse, fold), True)
                    for seat, place in enumerate(all_places(coarse)):
                        at = tuple(item * step for item, step in zip(place, steps))
                        self.assertEqual(thin[seat], items[seat_of(rings, at)])
                        total = sum(item for x, item in zip(all_places(rings), items) if fall(rings, steps, x) == place)
                        self.assertEqual(fold[seat], total)

    def test_steps_of_one(self):
        for rings in SMALL_RINGS + GREAT_RINGS:
            for items in some_wholes(rings):
                ones = (1,) * len(rings)
                self.assertTrue(same(thinned(rings, items, ones), items))
                self.assertTrue(same(folded(rings, items, ones), items))

    def test_voices(self):
        for rings in SMALL_RINGS:
            order = order_of(rings)
            for steps in all_steps(rings):
                coarse = coarse_rings(rings, steps)
                for items in some_wholes(rings)[2:]:
                    sounds = voices(rings, row_of(rings, items))
                    thin, fold = [voices(coarse, row_of(coarse, found(rings, items, steps))) for found in (thinned, folded)]
                    for seat, label in enumerate(all_places(coarse)):
                        total = zero(order)
                        for x, number in zip(all_places(rings), sounds):
                            if fall(rings, steps, x) == label:
                                total = plus(order, total, number)
                        part = times(order, total, number_of(order, (1,), math.prod(steps)))
                        self.assertEqual(lifted(order_of(coarse), thin[seat], order), part)
                        at = tuple(item * step for item, step in zip(label, steps))
                        self.assertEqual(lifted(order_of(coarse), fold[seat], order), sounds[seat_of(rings, at)])

    def test_voices_of_great_ones(self):
        # The same by images: the first turn of the coarse order is a power of that of the order.
        for rings in GREAT_RINGS[:8]:
            order, items = order_of(rings), some_wholes(rings)[4]
            for steps in all_steps(rings)[1:4]:
                coarse = coarse_rings(rings, steps)
                low = order_of(coarse)
                thin, fold = thinned(rings, items, steps), folded(rings, items, steps)
                j = units(order)[-1]
                sounds = {label: self.sound(rings, items, label, order, j) for label in all_places(rings)}
                for label in all_places(coarse):
                    total = sum(sounds[x] for x in sounds if fall(rings, steps, x) == label)
                    self.assertEqual((self.sound(coarse, thin, label, low, j) * math.prod(steps) - total) % PRIME, 0)
                    at = tuple(item * step for item, step in zip(label, steps))
                    self.assertEqual(self.sound(coarse, fold, label, low, j), sounds[at])

    def sound(self, rings, items, label, order, j):
        return sum(item * turn_image(order, pair(rings, x, label), j) for item, x in zip(items, all_places(rings))) % PRIME

    def test_by_hand(self):
        self.assertEqual(thinned((2, 3), (1, 2, 3, 4, 5, 6), (1, 1)), (1, 2, 3, 4, 5, 6))
        self.assertEqual(thinned((4, 2), (1, 2, 3, 4, 5, 6, 7, 8), (2, 1)), (1, 2, 5, 6))
        self.assertEqual(folded((4, 2), (1, 2, 3, 4, 5, 6, 7, 8), (2, 1)), (6, 8, 10, 12))
        self.assertEqual(thinned((2, 4), (1, 2, 3, 4, 5, 6, 7, 8), (1, 2)), (1, 3, 5, 7))
        self.assertEqual(folded((2, 4), (1, 2, 3, 4, 5, 6, 7, 8), (1, 2)), (4, 6, 12, 14))
        self.assertEqual(folded((6,), (1, 2, 3, 4, 5, 6), (3,)), (9, 12))


class Told(unittest.TestCase):

    def check(self, rings, labels, steps):
        found = judge_thinning(rings, labels, steps)
        self.assertTrue(same(found, judge_thinning(rings, labels, steps)))
        self.assertTrue(expected(rings, labels, steps, found), found)
        self.assertIs(thinning_holds(rings, labels, steps, found), True)
        self.assertIs(thinning_holds(rings, labels, steps, ("told",)), found == ("told",))
        return found[0]

    def test_some_lots(self):
        words = []
        for rings in SMALL_RINGS + GREAT_RINGS:
            for steps in all_steps(rings)[:4] + all_steps(rings)[-1:]:
                for labels in some_lots(rings):
                    words.append(self.check(rings, labels, steps))
        self.assertTrue(min(words.count("told"), words.count("pair")) > 100)

    def test_definition(self):
        # Told exactly if no row but zeros sounds within the lot and is empty at all places that are left.
        for rings in [(2,), (4,), (6,), (2, 2), (2, 3), (2, 4), (4, 2)]:
            for steps in all_steps(rings):
                others = tuple(x for x in all_places(rings) if any(item % step for item, step in zip(x, steps)))
                for labels in some_lots(rings):
                    told = slow_room(rings, others, labels) == 0
                    self.assertEqual(judge_thinning(rings, labels, steps)[0], "told" if told else "pair")

    def test_edges(self):
        for rings in SMALL_RINGS + GREAT_RINGS:
            every = all_places(rings)
            for steps in all_steps(rings)[-2:]:
                self.assertEqual(self.check(rings, (), steps), "told")
                self.assertEqual(self.check(rings, every[:1], steps), "told")
                self.assertEqual(self.check(rings, every, steps), "told" if math.prod(steps) == 1 else "pair")
                some = tuple(x for x in every if fall(rings, steps, x) == x)
                self.assertEqual(self.check(rings, some, steps), "told")
            self.assertEqual(judge_thinning(rings, every, (1,) * len(rings)), ("told",))

    def test_all_pairs(self):
        for rings, steps in [((4,), (2,)), ((6,), (3,)), ((6,), (2,)), ((2, 4), (1, 2)), ((4, 4), (2, 2)), ((60,), (30,))]:
            for labels in some_lots(rings)[:9]:
                for one, other in itertools.product(all_places(rings)[:16], repeat=2):
                    thing = ("pair", one, other)
                    self.assertIs(thinning_holds(rings, labels, steps, thing), expected(rings, labels, steps, thing))

    def test_nearly_right_ones(self):
        for rings, labels, steps in [((4,), ((0,), (1,), (2,)), (2,)), ((4,), ((0,), (1,)), (2,)), ((4,), ((1,), (3,)), (1,)),
                                     ((2, 4), ((0, 1), (0, 3), (1, 1)), (1, 2)), ((6,), (), (3,)),
                                     ((60,), ((0,), (1,), (30,), (31,)), (2,))]:
            found = judge_thinning(rings, labels, steps)
            for thing in [*changed(found), ("told",), ("pair", *found[1:]), ("told", *found[1:]), ("Told",), ["told"], "told",
                          ("pair", (1,), (3,)), ("pair", (0,), (2,)), ("pair", (1,), (1,)), ("pair", (False,), (2,)),
                          ("pair", (True,), (31,)), ("pair", (1,), (31,)), ("pair", (31,), (1,)), ("pair", [1], [31])]:
                good = expected(rings, labels, steps, thing)
                self.assertIs(thinning_holds(rings, labels, steps, thing), good, (rings, labels, steps, thing))

    def test_any_value(self):
        more = [("pair", (0, 0), (0, 1)), ("pair", (0, 0), (0, 2)), ("pair", (0, 0), (0, 0)), (DESK,), ("pair", (DESK,), (0,))]
        check_any_value(self, thinning_holds, ((2, 4), ((0, 1), (0, 3)), (1, 2)), more)
        check_any_value(self, thinning_holds, ((4, 4), all_places((4, 4)), (2, 2)), more[:1] + more[2:])
        self.assertIs(thinning_holds((4,), ((1,), (3,)), (2,), thing=("pair", (1,), (3,))), True)


class Wrongs(unittest.TestCase):

    RINGS = ("rings", (2, 3), NOT_RINGS, BadRings)
    STEPS = ("steps", (1, 1), NOT_STEPS, BadSteps)
    LABELS = ("labels", ((0, 0), (1, 2)), NOT_LOTS, BadLot)

    def test_rings(self):
        check_wrongs(self, coarse_rings, [self.RINGS, self.STEPS])
        check_wrongs(self, fallen, [self.RINGS, self.STEPS, ("label", (1, 2), NOT_PLACES, BadPlace)])

    def test_wholes(self):
        for function in [thinned, folded]:
            check_wrongs(self, function, [self.RINGS, ("whole", RIGHT_WHOLE, NOT_WHOLES, BadWhole), self.STEPS])

    def test_lots(self):
        check_wrongs(self, judge_thinning, [self.RINGS, self.LABELS, self.STEPS])
        check_wrongs_beside(self, thinning_holds, [self.RINGS, self.LABELS, self.STEPS])

    def test_is_steps(self):
        check_wrongs_beside(self, is_steps, [self.RINGS])


if __name__ == "__main__":
    unittest.main()
