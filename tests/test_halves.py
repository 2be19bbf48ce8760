"""Half seen, half heard: what fits, what is sure and what is open, against a slow way with numbers."""

import itertools
import random
import unittest

from ringvoices.errors import BadHeard, BadLot, BadPlace, BadRings, BadSeen, Unfit
from ringvoices.halves import (further_places, half_holds, is_seen, item_holds, judge_half, judge_item, judge_voice,
                               open_room, voice_holds)
from ringvoices.lowest import room
from ringvoices.numbers import number_of, plus, times, turn
from ringvoices.rings import all_places, order_of, seat_of, size_of, subgroup
from ringvoices.voices import row_of, voice, voices
from tests.checking import (DESK, NOT_CERTIFICATES, NOT_LOTS, NOT_PAIRS, NOT_PLACES, NOT_RINGS, RIGHT_PAIRS, RIGHT_ROW,
                            assert_desk_kept, check_any_value, check_wrongs, check_wrongs_beside, same)
from tests.oracle import (changed, fraction, is_strict_number, is_strict_place, is_strict_row, pair, random_number,
                          slow_room, slow_solutions, some_rows, whole, zero)

TINY_RINGS = [(2,), (3,), (4,), (2, 2)]
SMALL_RINGS = TINY_RINGS + [(5,), (6,), (2, 3), (3, 2)]
GREAT_RINGS = [(7,), (8,), (2, 4), (2, 2, 2), (9,), (3, 3), (10,), (12,), (2, 6), (3, 4), (2, 2, 3)]


def others_of(rings, lot):
    return tuple(place for place in all_places(rings) if place not in lot)


def some_lot(rings, dice, part):
    return tuple(place for place in all_places(rings) if dice.random() < part)


def pairs_of(rings, row, lot):
    """The items of a row at a lot of places."""
    return tuple((place, row[seat_of(rings, place)]) for place in lot)


def some_knowledge(rings, many=4):
    """Seen items and heard voices of each sort: of one row, of one but for one number, of any numbers."""
    dice, order, every = random.Random(f"{rings} {many}"), order_of(rings), all_places(rings)
    row = some_rows(rings, 1, 4)[-2]
    found = [((), ()), (pairs_of(rings, row, every), ()), ((), pairs_of(rings, voices(rings, row), every)),
             (pairs_of(rings, row, every), pairs_of(rings, voices(rings, row), every))]
    for at in range(many):
        row = dice.choice(some_rows(rings, 1, 4))
        seen = pairs_of(rings, row, some_lot(rings, dice, dice.choice((.2, .5, .8))))
        heard = pairs_of(rings, voices(rings, row), some_lot(rings, dice, dice.choice((.2, .5, .8))))
        found.append((seen, heard))
        if seen:
            at = dice.randrange(len(seen))
            found.append((seen[:at] + ((seen[at][0], plus(order, seen[at][1], whole(order, 1))),) + seen[at + 1:], heard))
        if heard:
            at = dice.randrange(len(heard))
            found.append((seen, heard[:at] + ((heard[at][0], random_number(order, dice)),) + heard[at + 1:]))
    return found


def slow_rows(rings, seen, heard):
    """Rows that fit, which have in common what all that fit have in common: by steps with numbers."""
    order, every = order_of(rings), all_places(rings)
    lines = [[whole(order, int(x == place)) for x in every] + [number] for place, number in seen]
    lines += [[turn(order, pair(rings, x, label)) for x in every] + [number] for label, number in heard]
    return slow_solutions(order, lines, len(every))


def sum_of(order, ones, others):
    total = zero(order)
    for one, other in zip(ones, others):
        total = plus(order, total, times(order, one, other))
    return total


def fits(rings, seen, heard, thing):
    if not is_strict_row(rings, thing):
        return False
    sounds = voices(rings, thing)
    return (all(thing[seat_of(rings, place)] == number for place, number in seen)
            and all(sounds[seat_of(rings, label)] == number for label, number in heard))


def weights_at(rings, seen, heard, ones, others):
    """The number by which the sum of weights takes the item at each place, None if they are of a wrong form."""
    order = order_of(rings)
    for part, pairs in ((ones, seen), (others, heard)):
        if type(part) is not tuple or len(part) != len(pairs) or not all(is_strict_number(order, one) for one in part):
            return None
    found = []
    for x in all_places(rings):
        at_place = [number for (place, _), number in zip(seen, ones) if place == x]
        turns = [turn(order, pair(rings, x, label)) for label, _ in heard]
        found.append(plus(order, sum_of(order, others, turns), at_place[0] if at_place else zero(order)))
    return found


def expected_half(rings, seen, heard, thing):
    """Whether a thing is a certificate of [11.1], number by number."""
    if type(thing) is not tuple or thing == () or type(thing[0]) is not str:
        return False
    if len(thing) == 2:
        return thing[0] == "row" and fits(rings, seen, heard, thing[1])
    if len(thing) != 3 or thing[0] != "weights":
        return False
    order, found = order_of(rings), weights_at(rings, seen, heard, *thing[1:])
    if found is None or any(number != zero(order) for number in found):
        return False
    return sum_of(order, thing[1] + thing[2], [number for _, number in seen + heard]) != zero(order)


def expected_sum(rings, seen, heard, target, value, thing):
    """Whether a thing is a certificate of [11.2], for an item or a voice."""
    if type(thing) is not tuple or len(thing) != 3 or type(thing[0]) is not str:
        return False
    if thing[0] == "sure":
        return weights_at(rings, seen, heard, *thing[1:]) == target
    if thing[0] != "open" or not all(fits(rings, seen, heard, row) for row in thing[1:]):
        return False
    return value(thing[1]) != value(thing[2])


def item_case(rings, place):
    order = order_of(rings)
    target = [whole(order, int(x == place)) for x in all_places(rings)]
    return judge_item, item_holds, target, lambda row: row[seat_of(rings, place)]


def voice_case(rings, label):
    target = [turn(order_of(rings), pair(rings, x, label)) for x in all_places(rings)]
    return judge_voice, voice_holds, target, lambda row: voice(rings, row, label)


class Seen(unittest.TestCase):

    def test_is_seen(self):
        for rings in SMALL_RINGS + GREAT_RINGS:
            order, dice = order_of(rings), random.Random(f"{rings}")
            for part in (0, .3, .7, 1):
                seen = tuple((place, random_number(order, dice, 99, 99)) for place in some_lot(rings, dice, part))
                self.assertIs(is_seen(rings, seen), True)
                self.assertIs(is_seen(rings, seen[::-1]), len(seen) < 2)
                self.assertIs(is_seen(rings, list(seen)), False)

    def test_nearly_right_ones(self):
        for thing in changed(RIGHT_PAIRS):
            good = type(thing) is tuple and all(type(part) is tuple and len(part) == 2 for part in thing)
            good = good and all(is_strict_place((2, 3), part[0]) and is_strict_number(6, part[1]) for part in thing)
            good = good and [part[0] for part in thing] == sorted({part[0] for part in thing})
            self.assertIs(is_seen((2, 3), thing), good, thing)

    def test_any_value(self):
        for thing in NOT_PAIRS:
            self.assertIs(is_seen((2, 3), thing), False)
        self.assertIs(is_seen((2, 3), thing=()), True)


class Half(unittest.TestCase):

    def check(self, rings, seen, heard):
        found = judge_half(rings, seen, heard)
        self.assertTrue(same(found, judge_half(rings, seen, heard)))
        self.assertTrue(expected_half(rings, seen, heard, found), found)
        self.assertIs(half_holds(rings, seen, heard, found), True)
        return found

    def test_some_knowledge(self):
        words = []
        for rings in SMALL_RINGS:
            for seen, heard in some_knowledge(rings, 10):
                found = self.check(rings, seen, heard)
                self.assertEqual(found[0], "row" if slow_rows(rings, seen, heard) else "weights")
                words.append(found[0])
        self.assertTrue(min(words.count("row"), words.count("weights")) > 30)

    def test_great_ones(self):
        for rings in GREAT_RINGS:
            for seen, heard in some_knowledge(rings, 2):
                found = self.check(rings, seen, heard)
                if size_of(rings) < 9:
                    self.assertEqual(found[0], "row" if slow_rows(rings, seen, heard) else "weights")

    def test_zeros_and_ones(self):
        # All lots of places and labels, and a few numbers.
        for rings in [(2,), (3,)]:
            order, every = order_of(rings), all_places(rings)
            lots = [lot for many in range(len(every) + 1) for lot in itertools.combinations(every, many)]
            for places, labels in itertools.product(lots, repeat=2):
                for seed in range(6):
                    dice = random.Random(seed)
                    seen, heard = [tuple((x, dice.choice((zero(order), whole(order, 1), turn(order, 1)))) for x in lot)
                                   for lot in (places, labels)]
                    found = self.check(rings, seen, heard)
                    self.assertEqual(found[0], "row" if slow_rows(rings, seen, heard) else "weights")

    def test_prime_lengths(self):
        # Whatever the numbers are, some row fits if no more of them are known than there are places.
        for p in (2, 3, 5, 7):
            dice, every = random.Random(p), all_places((p,))
            for many in range(p + 1):
                for _ in range(4):
                    places = sorted(dice.sample(every, dice.randrange(many + 1)))
                    labels = sorted(dice.sample(every, many - len(places)))
                    seen, heard = [tuple((x, random_number(p, dice)) for x in lot) for lot in (places, labels)]
                    self.assertEqual(self.check((p,), seen, heard)[0], "row")
                    self.assertEqual(open_room((p,), tuple(places), tuple(labels)), p - many)

    def test_more_than_are_free(self):
        for rings in SMALL_RINGS + GREAT_RINGS:
            order, dice, every = order_of(rings), random.Random(f"{rings}"), all_places(rings)
            row = some_rows(rings, 1, 4)[-2]
            seen, heard = pairs_of(rings, row, every), pairs_of(rings, voices(rings, row), every)
            self.assertEqual(judge_half(rings, seen, heard), ("row", row))
            self.assertEqual(judge_half(rings, seen[1:], heard[:3]), ("row", row))
            wrong = heard[:-1] + ((every[-1], plus(order, heard[-1][1], number_of(order, (1,), 10 ** 9))),)
            self.assertEqual(self.check(rings, seen, wrong)[0], "weights")
            self.assertEqual(self.check(rings, seen[1:], wrong[-2:])[0], "weights")
            any_ones = tuple((label, random_number(order, dice)) for label in every)
            self.assertEqual(self.check(rings, seen, any_ones)[0], "weights")

    def test_subgroups(self):
        # The sum of the items of a subgroup that is moved is known by the voices that bar it, and conversely.
        for rings in SMALL_RINGS + GREAT_RINGS:
            order, every = order_of(rings), all_places(rings)
            for one in every[1:4]:
                group = subgroup(rings, (one,))
                barred = tuple(k for k in every if all(pair(rings, x, k) == 0 for x in group))
                ones, zeros = [tuple((x, whole(order, item)) for x in group) for item in (1, 0)]
                heard = tuple((label, whole(order, len(every))) for label in barred)
                self.assertEqual(self.check(rings, ones, heard)[0], "weights" if len(barred) > 1 else
                                 "row" if len(group) == len(every) else "weights")
                self.assertEqual(self.check(rings, zeros, heard)[0], "weights")
                self.assertEqual(self.check(rings, zeros[:-1] + ((group[-1], whole(order, len(every))),), heard)[0], "row")

    def test_great_integers(self):
        for rings in [(5,), (6,), (2, 4), (9,), (12,), (2, 6)]:
            order, dice, every = order_of(rings), random.Random(f"{rings}"), all_places(rings)
            n = len(every)
            any_ones = [tuple((x, random_number(order, dice, 99, 99)) for x in every) for _ in "ab"]
            for seen, heard in [(any_ones[0], any_ones[1]), (any_ones[0][: n // 2], any_ones[1][n // 2:]), ((), any_ones[1])]:
                self.check(rings, seen, heard)
            row = tuple(number for _, number in any_ones[0])
            heard = pairs_of(rings, voices(rings, row), every[1:])
            self.assertEqual(judge_half(rings, any_ones[0][2:3], heard), ("row", row))

    def test_weights_of_others(self):
        one, less, half = ((1,), 1), ((-1,), 1), ((1,), 2)
        two = ((2,), 1)
        seen, heard = (((0,), two), ((1,), two)), (((0,), two),)
        for thing, good in [(("weights", (one, one), (less,)), True), (("weights", (half, half), (((-1,), 2),)), True),
                            (("weights", (one, one), (one,)), False), (("weights", (one, less), (less,)), False),
                            (("weights", (one, one), ()), False), (("weights", (one, one, one), (less,)), False),
                            (("weights", (((0,), 1),) * 2, (((0,), 1),)), False), (("weights", (one,), (less,)), False),
                            (("weights", (less,), (one, one)), False), (("weights", [one, one], (less,)), False)]:
            self.assertIs(half_holds((2,), seen, heard, thing), good, thing)
        # The same weights show nothing where the numbers go together.
        self.assertIs(half_holds((2,), seen, (((0,), ((4,), 1)),), ("weights", (one, one), (less,))), False)

    def test_signs_of_the_pairing(self):
        # The voice with the label 1 of the row that is 1 at the place 1 is the turn, not the turn back.
        one, z, back = whole(3, 1), turn(3, 1), turn(3, 2)
        seen = (((0,), zero(3)), ((1,), one), ((2,), zero(3)))
        self.assertEqual(judge_half((3,), seen, (((1,), z),))[0], "row")
        self.assertEqual(judge_half((3,), seen, (((1,), back),))[0], "weights")
        weights = ("weights", (one, z, back), (number_of(3, (-1,), 1),))
        self.assertIs(half_holds((3,), seen, (((1,), back),), weights), True)
        self.assertIs(half_holds((3,), seen, (((1,), back),), ("weights", (one, back, z), weights[2])), False)
        self.assertIs(half_holds((3,), seen, (((1,), z),), weights), False)

    def test_nearly_right_ones(self):
        for rings, seen, heard in self.small_cases():
            found = judge_half(rings, seen, heard)
            rows = slow_rows(rings, seen, heard)
            for thing in [*changed(found), ("row", found[1]), ("weights", found[1]), ("weights", *found[1:]), found[:1],
                          *[("row", row) for row in rows], ("row", list(rows[0]) if rows else ()), ("weights", (), ()),
                          ("row", row_of(rings, (0,) * size_of(rings))), ("Row", *found[1:])]:
                good = expected_half(rings, seen, heard, thing)
                self.assertIs(half_holds(rings, seen, heard, thing), good, (rings, seen, heard, thing))

    def small_cases(self):
        two, one = fraction(2, 2, 1), fraction(2, 1, 1)
        cases = [((2,), (((0,), two),), (((0,), two),)), ((2,), (((0,), two), ((1,), two)), (((0,), two),)), ((2,), (), ()),
                 ((2,), (((1,), one),), (((0,), one), ((1,), two))), ((2,), (), (((1,), one),))]
        return cases + [((3,), seen, heard) for seen, heard in some_knowledge((3,), 2)[3:8]]

    def test_any_value(self):
        seen = (((0, 0), whole(6, 1)),)
        more = [("row", RIGHT_ROW), ("row", (0,) * 6), ("weights", (whole(6, 1),), ()), ("weights", (), (zero(6),))]
        check_any_value(self, half_holds, ((2, 3), seen, ()), more)
        check_any_value(self, half_holds, ((2, 3), (), tuple((x, whole(6, 1)) for x in all_places((2, 3)))), more)
        self.assertIs(half_holds((2, 3), seen, (), thing=("row", row_of((2, 3), (1, 0, 0, 0, 0, 0)))), True)


class Sure(unittest.TestCase):

    def check(self, rings, seen, heard, at, case):
        judge, holds, target, value = case(rings, at)
        rows = slow_rows(rings, seen, heard)
        if not rows:
            for call in (lambda: judge(rings, seen, heard, at), lambda: holds(rings, seen, heard, at, ("sure", (), ()))):
                with self.assertRaises(Unfit) as caught:
                    call()
                self.assertIs(caught.exception.__class__, Unfit)
                self.assertEqual(list(vars(caught.exception)), ["certificate"])
                self.assertEqual(caught.exception.certificate[0], "weights")
                self.assertTrue(expected_half(rings, seen, heard, caught.exception.certificate))
            return "unfit"
        found = judge(rings, seen, heard, at)
        self.assertTrue(same(found, judge(rings, seen, heard, at)))
        self.assertEqual(found[0], "sure" if len({value(row) for row in rows}) == 1 else "open")
        self.assertTrue(expected_sum(rings, seen, heard, target, value, found), found)
        self.assertIs(holds(rings, seen, heard, at, found), True)
        if found[0] == "sure":
            order = order_of(rings)
            known = [number for _, number in seen + heard]
            self.assertEqual(sum_of(order, found[1] + found[2], known), value(rows[0]))
        return found[0]

    def test_some_knowledge(self):
        words = []
        for rings in SMALL_RINGS:
            for seen, heard in some_knowledge(rings, 5):
                for at in all_places(rings)[:4]:
                    for case in (item_case, voice_case):
                        words.append(self.check(rings, seen, heard, at, case))
        self.assertTrue(min(words.count(word) for word in ("sure", "open", "unfit")) > 50)

    def test_great_ones(self):
        for rings in GREAT_RINGS:
            dice = random.Random(f"{rings}")
            for seen, heard in some_knowledge(rings, 1):
                self.check(rings, seen, heard, dice.choice(all_places(rings)), dice.choice((item_case, voice_case)))

    def test_edges(self):
        for rings in SMALL_RINGS + GREAT_RINGS[:4]:
            order, every = order_of(rings), all_places(rings)
            row = some_rows(rings, 1, 4)[-1]
            seen, heard = pairs_of(rings, row, every), pairs_of(rings, voices(rings, row), every)
            for at in (every[0], every[-1]):
                for case in (item_case, voice_case):
                    self.assertEqual(self.check(rings, (), (), at, case), "open")
                    self.assertEqual(self.check(rings, seen, (), at, case), "sure")
                    self.assertEqual(self.check(rings, (), heard, at, case), "sure")
                    self.assertEqual(self.check(rings, seen, heard, at, case), "sure")
            self.assertEqual(self.check(rings, seen[:1], (), every[0], item_case), "sure")
            self.assertEqual(self.check(rings, seen[:1], (), every[1], item_case), "open")
            self.assertEqual(self.check(rings, (), heard[:1], every[0], voice_case), "sure")
            self.assertEqual(self.check(rings, (), heard[:1], every[0], item_case), "open")
            self.assertEqual(self.check(rings, seen[1:], (), every[0], voice_case), "open")
            self.assertEqual(self.check(rings, seen[1:], heard[:1], every[0], item_case), "sure")
            wrong = ((every[0], plus(order, heard[0][1], whole(order, 1))),)
            self.assertEqual(self.check(rings, seen, wrong, every[0], item_case), "unfit")

    def test_great_integers(self):
        for rings in [(5,), (12,), (2, 6)]:
            dice, order, every = random.Random(f"{rings}"), order_of(rings), all_places(rings)
            row = tuple(random_number(order, dice, 99, 99) for _ in every)
            seen, heard = pairs_of(rings, row, every[:2]), pairs_of(rings, voices(rings, row), every[3:])
            for case in (item_case, voice_case):
                judge, holds, target, value = case(rings, every[2])
                found = judge(rings, seen, heard, every[2])
                self.assertTrue(expected_sum(rings, seen, heard, target, value, found))
                self.assertIs(holds(rings, seen, heard, every[2], found), True)

    def test_nearly_right_ones(self):
        for rings, seen, heard in Half.small_cases(self):
            rows = slow_rows(rings, seen, heard)
            for at, case in itertools.product(all_places(rings)[:2] if rows else [], (item_case, voice_case)):
                judge, holds, target, value = case(rings, at)
                found = judge(rings, seen, heard, at)
                things = [*changed(found), ("sure", *found[1:]), ("open", *found[1:]), ("open", rows[0], rows[-1]),
                          ("open", rows[0], rows[0]), ("sure", found[1]), ("sure", (), ()), ("Open", *found[1:])]
                things += [("sure", *other(rings, seen, heard, place)[1:]) for other in (judge_item, judge_voice)
                           for place in all_places(rings) if other(rings, seen, heard, place)[0] == "sure"]
                for thing in things:
                    good = expected_sum(rings, seen, heard, target, value, thing)
                    self.assertIs(holds(rings, seen, heard, at, thing), good, (rings, seen, heard, at, thing))

    def test_rows_that_are_equal_there(self):
        nil = zero(4)
        seen = (((0,), nil),)
        one, other = row_of((4,), (0, 1, 0, 0)), row_of((4,), (0, 2, 0, 3))
        self.assertIs(item_holds((4,), seen, (), (1,), ("open", one, other)), True)
        self.assertIs(item_holds((4,), seen, (), (2,), ("open", one, other)), False)
        self.assertIs(item_holds((4,), seen, (), (3,), ("open", one, other)), True)
        self.assertIs(item_holds((4,), seen, (), (3,), ("open", one, row_of((4,), (1, 2, 0, 3)))), False)
        self.assertIs(voice_holds((4,), seen, (), (0,), ("open", one, other)), True)
        self.assertIs(voice_holds((4,), seen, (), (0,), ("open", one, row_of((4,), (0, 0, 1, 0)))), False)
        self.assertIs(voice_holds((4,), seen, (), (1,), ("open", one, row_of((4,), (0, 0, 1, 0)))), True)
        self.assertIs(voice_holds((4,), seen, (), (1,), ("open", one, row_of((4,), (0, 2, 0, 1)))), False)

    def test_by_hand(self):
        # Half the sum of both voices is the item at the origin.
        half = fraction(2, 1, 2)
        heard = (((0,), fraction(2, 3, 1)), ((1,), fraction(2, 5, 1)))
        self.assertEqual(judge_item((2,), (), heard, (0,)), ("sure", (), (half, half)))
        self.assertEqual(judge_item((2,), (), heard, (1,)), ("sure", (), (half, fraction(2, -1, 2))))
        self.assertEqual(judge_item((2,), (), heard[:1], (0,))[0], "open")
        self.assertEqual(judge_voice((2,), (((0,), half), ((1,), half)), (), (1,)),
                         ("sure", (fraction(2, 1, 1), fraction(2, -1, 1)), ()))

    def test_any_value(self):
        more = [("open", RIGHT_ROW, RIGHT_ROW), ("open", RIGHT_ROW, row_of((2, 3), (0,) * 6)), ("sure", (zero(6),), ())]
        seen = (((0, 0), whole(6, 1)),)
        for holds in (item_holds, voice_holds):
            check_any_value(self, holds, ((2, 3), seen, (), (0, 0)), more)
            check_any_value(self, holds, ((2, 3), (), seen, (1, 1)), more)
        self.assertIs(item_holds((2, 3), seen, (), (0, 0), thing=("sure", (whole(6, 1),), ())), True)
        self.assertIs(voice_holds((2, 3), (), seen, (0, 0), thing=("sure", (), (whole(6, 1),))), True)


class Rooms(unittest.TestCase):

    def test_open_room(self):
        for rings in SMALL_RINGS + GREAT_RINGS:
            dice = random.Random(f"{rings}")
            for _ in range(12 if size_of(rings) < 9 else 4):
                places, labels = some_lot(rings, dice, dice.random()), some_lot(rings, dice, dice.random())
                found = open_room(rings, places, labels)
                self.assertTrue(same(found, slow_room(rings, others_of(rings, places), others_of(rings, labels))))
                self.assertEqual(found, room(rings, others_of(rings, places), others_of(rings, labels)))

    def test_all_lots(self):
        for rings in TINY_RINGS:
            every = all_places(rings)
            lots = [lot for many in range(len(every) + 1) for lot in itertools.combinations(every, many)]
            for places, labels in itertools.product(lots, repeat=2):
                many = open_room(rings, places, labels)
                self.assertEqual(many, slow_room(rings, others_of(rings, places), others_of(rings, labels)))
                if len(rings) == 1 and rings[0] < 4:
                    self.assertEqual(many, max(0, len(every) - len(places) - len(labels)))
                self.check_further(rings, places, labels, many)
                # No fewer places do.
                for fewer in itertools.combinations(others_of(rings, places), many - 1 if many else 0):
                    self.assertEqual(open_room(rings, tuple(sorted(places + fewer)), labels) == 0, many == 0)

    def check_further(self, rings, places, labels, many):
        found = further_places(rings, places, labels)
        self.assertTrue(same(found, further_places(rings, places, labels)))
        self.assertEqual((len(found), type(found)), (many, tuple))
        self.assertEqual(found, tuple(sorted(set(found))))
        self.assertFalse(set(found) & set(places))
        self.assertEqual(slow_room(rings, others_of(rings, places + found), others_of(rings, labels)), 0)

    def test_further_places(self):
        for rings in SMALL_RINGS[4:] + GREAT_RINGS:
            dice, every = random.Random(f"{rings}"), all_places(rings)
            for _ in range(8 if size_of(rings) < 9 else 3):
                places, labels = some_lot(rings, dice, dice.random()), some_lot(rings, dice, dice.random())
                self.check_further(rings, places, labels, open_room(rings, places, labels))
            self.assertEqual(further_places(rings, (), ()), every)
            self.assertEqual(further_places(rings, every, ()), ())
            self.assertEqual(further_places(rings, (), every), ())
            group = subgroup(rings, every[1:2])
            self.check_further(rings, every[:1], group, open_room(rings, every[:1], group))

    def test_just_one_row(self):
        # Just one row fits exactly if the open room is 0.
        for rings in SMALL_RINGS:
            for seen, heard in some_knowledge(rings, 5):
                rows = slow_rows(rings, seen, heard)
                many = open_room(rings, tuple(place for place, _ in seen), tuple(label for label, _ in heard))
                self.assertEqual(many, max(0, len(rows) - 1) if rows else many)


class Wrongs(unittest.TestCase):

    RINGS = ("rings", (2, 3), NOT_RINGS, BadRings)
    KNOWN = [RINGS, ("seen", RIGHT_PAIRS[:1], NOT_PAIRS, BadSeen), ("heard", RIGHT_PAIRS[1:2], NOT_PAIRS, BadHeard)]

    def test_half(self):
        check_wrongs(self, judge_half, self.KNOWN)
        check_wrongs_beside(self, half_holds, self.KNOWN)

    def test_sure(self):
        place, label = [("place", (1, 2), NOT_PLACES, BadPlace)], [("label", (0, 1), NOT_PLACES, BadPlace)]
        check_wrongs(self, judge_item, self.KNOWN + place)
        check_wrongs(self, judge_voice, self.KNOWN + label)
        check_wrongs_beside(self, item_holds, self.KNOWN + place)
        check_wrongs_beside(self, voice_holds, self.KNOWN + label)

    def test_place_ahead_of_unfit(self):
        seen = tuple((place, whole(6, 1)) for place in all_places((2, 3)))
        heard = (((0, 0), whole(6, 5)),)
        for wrong in NOT_PLACES:
            for call in (lambda: judge_item((2, 3), seen, heard, wrong), lambda: voice_holds((2, 3), seen, heard, wrong, ())):
                with self.assertRaises(BadPlace) as caught:
                    call()
                self.assertIs(caught.exception.thing, wrong)
        for thing in [*NOT_CERTIFICATES, ("sure", (zero(6),) * 6, (whole(6, 1),)), DESK]:
            for holds in (item_holds, voice_holds):
                with self.assertRaises(Unfit) as caught:
                    holds((2, 3), seen, heard, (0, 0), thing)
                self.assertIs(half_holds((2, 3), seen, heard, caught.exception.certificate), True)
        assert_desk_kept(self)

    def test_lots(self):
        for function in [open_room, further_places]:
            check_wrongs(self, function, [self.RINGS, ("places", ((0, 0), (1, 2)), NOT_LOTS, BadLot),
                                          ("labels", ((0, 1),), NOT_LOTS, BadLot)])


if __name__ == "__main__":
    unittest.main()
