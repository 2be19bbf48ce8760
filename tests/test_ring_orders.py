"""Rings in another order: what is told of rows, lots and voices is the same, all places and labels likewise."""

import itertools
import random
import unittest

from ringvoices.coarse import coarse_rings, fallen, folded, judge_thinning, thinned
from ringvoices.desks import Desk
from ringvoices.differences import companions, differences, is_turned, judge_differences, lot_differences
from ringvoices.flat import difference_lots, is_difference_lot, judge_flat, multipliers
from ringvoices.halves import judge_half, judge_item, judge_voice, open_room
from ringvoices.heard import judge_heard, slips, sure_items
from ringvoices.lowest import judge_pair, least, room
from ringvoices.mixing import judge_undone, mirrored, mixed, moved
from ringvoices.rings import all_places, classes, order_of, pairing, seat_of, size_of, subgroup
from ringvoices.silence import class_sum
from ringvoices.telling import does_tell, least_telling, sure_number
from ringvoices.voices import filled, sounding, voice, voices
from tests.oracle import some_rows

ORDERS = [((2, 3), (1, 0)), ((2, 4), (1, 0)), ((2, 2, 2), (2, 0, 1)), ((2, 6), (1, 0)), ((2, 2, 3), (2, 0, 1)),
          ((2, 2, 3), (0, 2, 1)), ((3, 4), (1, 0))]


class Order:
    """Rings, the same rings in another order, and what becomes of places, lots and rows."""

    def __init__(self, rings, order):
        self.order, self.rings, self.others = order, rings, tuple(rings[k] for k in order)

    def place(self, place):
        return tuple(place[k] for k in self.order)

    def lot(self, lot):
        return tuple(sorted(map(self.place, lot)))

    def row(self, row, rings=None):
        """Each item at the place that its place becomes."""
        rings = rings or self.rings
        others = tuple(rings[k] for k in self.order)
        found = [None] * len(row)
        for place, item in zip(all_places(rings), row):
            found[seat_of(others, self.place(place))] = item
        return tuple(found)

    def pairs(self, pairs):
        return tuple(sorted((self.place(place), number) for place, number in pairs))


def some_lots(rings, seed):
    dice = random.Random(f"{rings} {seed}")
    return [tuple(place for place in all_places(rings) if dice.random() < part) for part in (.2, .4, .6, .8)]


class RingOrders(unittest.TestCase):

    def each(self, most=12):
        return [Order(rings, order) for rings, order in ORDERS if size_of(rings) <= most]

    def test_places(self):
        for one in self.each():
            self.assertEqual((size_of(one.others), order_of(one.others)), (size_of(one.rings), order_of(one.rings)))
            self.assertEqual(one.lot(all_places(one.rings)), all_places(one.others))
            self.assertEqual(tuple(sorted(one.lot(lot) for lot in classes(one.rings))), classes(one.others))
            for x, k in itertools.product(all_places(one.rings), repeat=2):
                self.assertEqual(pairing(one.others, one.place(x), one.place(k)), pairing(one.rings, x, k))
                self.assertEqual(class_sum(one.others, one.place(k), one.place(x)), class_sum(one.rings, k, x))
            for lot in some_lots(one.rings, 1):
                self.assertEqual(one.lot(subgroup(one.rings, lot[:2])), subgroup(one.others, one.lot(lot[:2])))

    def test_rows(self):
        for one in self.each():
            rows = some_rows(one.rings, 1)[3:9]
            for row, other in zip(rows, rows[::-1]):
                there = one.row(row)
                self.assertEqual(one.row(voices(one.rings, row)), voices(one.others, there))
                self.assertEqual(one.lot(filled(one.rings, row)), filled(one.others, there))
                self.assertEqual(one.lot(sounding(one.rings, row)), sounding(one.others, there))
                self.assertEqual(one.row(mixed(one.rings, row, other)), mixed(one.others, there, one.row(other)))
                self.assertEqual(one.row(mirrored(one.rings, row)), mirrored(one.others, there))
                self.assertEqual(one.row(differences(one.rings, row)), differences(one.others, there))
                self.assertEqual(judge_undone(one.rings, row)[0], judge_undone(one.others, there)[0])
                for place in all_places(one.rings)[-2:]:
                    self.assertEqual(one.row(moved(one.rings, row, place)), moved(one.others, there, one.place(place)))
                    self.assertEqual(voice(one.rings, row, place), voice(one.others, there, one.place(place)))

    def test_lots(self):
        for one in self.each():
            for k in range(1, size_of(one.rings) + 1):
                self.assertEqual(least(one.rings, k), least(one.others, k))
                self.assertEqual(sure_number(one.rings, k, 1), sure_number(one.others, k, 1))
                self.assertEqual(len(difference_lots(one.rings, k)), len(difference_lots(one.others, k)))
            for places, labels in zip(some_lots(one.rings, 2), some_lots(one.rings, 3)):
                there, their_labels = one.lot(places), one.lot(labels)
                self.assertEqual(room(one.rings, places, labels), room(one.others, there, their_labels))
                self.assertEqual(open_room(one.rings, places, labels), open_room(one.others, there, their_labels))
                pair, other_pair = judge_pair(one.rings, places, labels), judge_pair(one.others, there, their_labels)
                self.assertEqual(pair[0] == "row", other_pair[0] == "row")
                self.assertEqual(one.row(lot_differences(one.rings, places)), lot_differences(one.others, there))
                self.assertEqual(multipliers(one.rings, places), multipliers(one.others, there))
                self.assertIs(is_difference_lot(one.rings, places), is_difference_lot(one.others, there))
                found = companions(one.rings, places)
                self.assertEqual(tuple(sorted(map(one.lot, found))), companions(one.others, there))
                for other in found[:3] + (labels,):
                    self.assertIs(is_turned(one.rings, places, other), is_turned(one.others, there, one.lot(other)))

    def test_telling(self):
        for one in self.each(8):
            for k, e in [(1, 0), (2, 0), (1, 1), (3, 0), (2, 1)]:
                for labels in some_lots(one.rings, 4):
                    self.assertIs(does_tell(one.rings, labels, k, e), does_tell(one.others, one.lot(labels), k, e))
                few, other_few = least_telling(one.rings, k, e), least_telling(one.others, k, e)
                self.assertEqual(few and len(few), other_few and len(other_few))

    def test_heard(self):
        for one in self.each(6):
            for row in some_rows(one.rings, 1)[1:6]:
                sounds = voices(one.rings, row)
                for labels in some_lots(one.rings, 5):
                    heard = tuple((label, sounds[seat_of(one.rings, label)]) for label in labels)
                    for k, e in [(1, 0), (2, 0), (1, 1)]:
                        found, there = judge_heard(one.rings, heard, k, e), judge_heard(one.others, one.pairs(heard), k, e)
                        self.assertEqual(found[0], there[0])
                        if found[0] == "one":
                            self.assertEqual(one.row(found[1]), there[1])
                        sure = sure_items(one.rings, heard, k, e)
                        self.assertEqual(sure and one.pairs(sure), sure_items(one.others, one.pairs(heard), k, e))
                    other = one.row(some_rows(one.rings, 1)[5])
                    told = slips(one.rings, some_rows(one.rings, 1)[5], heard)
                    self.assertEqual(one.lot(told), slips(one.others, other, one.pairs(heard)))

    def test_halves(self):
        for one in self.each():
            row = some_rows(one.rings, 1, 3)[-2]
            sounds = voices(one.rings, row)
            for places, labels in zip(some_lots(one.rings, 6), some_lots(one.rings, 7)[::-1]):
                seen = tuple((place, row[seat_of(one.rings, place)]) for place in places)
                heard = tuple((label, sounds[seat_of(one.rings, label)]) for label in labels)
                for at in all_places(one.rings)[1:3]:
                    for judge in (judge_item, judge_voice):
                        there = judge(one.others, one.pairs(seen), one.pairs(heard), one.place(at))
                        self.assertEqual(judge(one.rings, seen, heard, at)[0], there[0])
                wrong = heard[:-1] + tuple((label, row[0]) for label, _ in heard[-1:])
                self.assertEqual(judge_half(one.rings, seen, wrong)[0],
                                 judge_half(one.others, one.pairs(seen), one.pairs(wrong))[0])

    def test_whole_rows(self):
        for one in self.each():
            dice = random.Random(f"{one.rings}")
            for most in (1, 1, 2, 9):
                items, other = [tuple(dice.randrange(-most, most + 1) for _ in all_places(one.rings)) for _ in "ab"]
                self.assertEqual(judge_flat(one.rings, items)[0], judge_flat(one.others, one.row(items))[0])
                for second in (other, items, items[::-1]):
                    self.assertEqual(judge_differences(one.rings, items, second)[0],
                                     judge_differences(one.others, one.row(items), one.row(second))[0])

    def test_thinned(self):
        for one in self.each():
            items = tuple(range(size_of(one.rings)))
            for steps in itertools.product(*[[d for d in range(1, n) if n % d == 0] for n in one.rings]):
                there, coarse = one.place(steps), coarse_rings(one.rings, steps)
                self.assertEqual(one.place(coarse), coarse_rings(one.others, there))
                for change in (thinned, folded):
                    found = one.row(change(one.rings, items, steps), coarse)
                    self.assertEqual(found, change(one.others, one.row(items), there))
                for label in all_places(one.rings):
                    self.assertEqual(one.place(fallen(one.rings, steps, label)), fallen(one.others, there, one.place(label)))
                for labels in some_lots(one.rings, 8):
                    self.assertEqual(judge_thinning(one.rings, labels, steps)[0],
                                     judge_thinning(one.others, one.lot(labels), there)[0])

    def test_desks(self):
        for one in self.each():
            dice = random.Random(f"{one.rings}")
            items = tuple(dice.randrange(-2, 3) for _ in all_places(one.rings))
            desk, other = Desk(one.rings, items), Desk(one.others, one.row(items))
            more, place = tuple(dice.randrange(-2, 3) for _ in items), all_places(one.rings)[-1]
            for deed in [("mix", more), ("move", place), ("mirror",), ("add", more), ("set", place, 3)]:
                desk.do(deed)
                word, *parts = deed
                if word in ("mix", "add"):
                    parts = [one.row(more)]
                elif parts:
                    parts[0] = one.place(place)
                other.do((word, *parts))
                self.assertEqual(one.row(desk.row()), other.row())
            self.assertEqual(desk.undoable(), other.undoable())


if __name__ == "__main__":
    unittest.main()
