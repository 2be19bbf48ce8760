"""Desks: deeds, claims and texts against an own model of a desk, and all errors."""

import itertools
import random
import unittest

from ringvoices.desks import Desk, read_desk
from ringvoices.errors import (BadClaim, BadDeed, BadRings, BadText, BadWhole, NoClaim, NothingToRedo, NothingToUndo,
                               RingError, TooMany, Unkept)
from ringvoices.mixing import judge_undone, mirrored, mixed, moved
from ringvoices.rings import all_places, place_sum, place_times, size_of
from ringvoices.voices import row_of, sounding
from tests.checking import (DESK, NOT_RINGS, NOT_WHOLES, NOTHINGS, RIGHT_WHOLE, assert_desk_kept, assert_raises, copy_of,
                            same)
from tests.oracle import changed

MOST = 10 ** 12

SMALL_RINGS = [(2,), (3,), (4,), (2, 2), (5,), (6,), (2, 3)]
SOME_RINGS = SMALL_RINGS + [(7,), (8,), (2, 4), (2, 2, 2), (9,), (11,), (12,), (2, 6), (2, 2, 3)]

# For the rings (2, 3).
NOT_DEEDS = NOTHINGS + [(), 0, ("add",), ("mix",), ("move",), ("set",), "mirror", ["mirror"], ("mirror", ()), ("mirror", None),
                        ("Mirror",), ("mirror", (0, 0)), ("mirror", "mirror"), ("undoable",), ("silent", (0, 0)), ("sum", 1),
                        ("add", RIGHT_WHOLE, 0), ("add", RIGHT_WHOLE[:-1]), ("add", RIGHT_WHOLE + (0,)), ("add", DESK),
                        ("add", list(RIGHT_WHOLE)), ("add", (0, 0, 0, 0, 0, True)), ("add", (0, 0, 0, 0, 0, 1.0)), ("add", 1),
                        ("mix", RIGHT_WHOLE[:-1]), ("mix", list(RIGHT_WHOLE)), ("mix", (False, 0, 0, 0, 0, 0)), ("mix", DESK),
                        ("mix", (0, 0)), ("mix", None), ("mix", RIGHT_WHOLE, RIGHT_WHOLE), ["mix", RIGHT_WHOLE],
                        ("move", (0, 3)), ("move", (2, 0)), ("move", [0, 0]), ("move", (0, True)), ("move", 0), ("move", (0,)),
                        ("move", 0, 0), ("move", (0, 0), 0), ("move", (0, 0), (0, 0)), ("move", DESK), ("move", RIGHT_WHOLE),
                        ("set", (0, 0)), ("set", (0, 0), None), ("set", (0, 0), True), ("set", (0, 0), "1"), ("set", (0, 3), 1),
                        ("set", (0, False), 1), ("set", 0, 1), ("set", 1, (0, 0)), ("set", (0, 0), (1,)), ("set", (0, 0), 1, 1),
                        ("set", (0, 0), 1.0), ("set", [0, 0], 1), ["set", (0, 0), 1], ("set", (0, 0), DESK), (DESK, (0, 0), 1),
                        ("add", (0, 0), 1), (None, RIGHT_WHOLE), (("add",), RIGHT_WHOLE), {0: "mirror"}, ("undo",), (DESK, DESK)]

# For the rings (2, 3).
NOT_CLAIMS = NOTHINGS + [(), 0, ("empty",), ("silent",), ("sum",), "undoable", ["undoable"], ("undoable", ()), ("Undoable",),
                         ("undoable", None), ("undoable", "undoable"), ("empty", (0, 3)), ("empty", (2, 0)), ("empty", [0, 0]),
                         ("empty", (0, True)), ("empty", (False, 0)), ("empty", 0), ("empty", (0,)), ("empty", 0, 0),
                         ("empty", (0, 0), 0), ("empty", DESK), ("silent", (0, 3)), ("silent", [0, 0]), ("silent", (0, True)),
                         ("silent", None), ("silent", (0, 0, 0)), ("silent", (0, 0), (0, 0)), ["silent", (0, 0)], ("sum", None),
                         ("sum", True), ("sum", False), ("sum", "1"), ("sum", 1.0), ("sum", (1,)), ("sum", 1, 1), ["sum", 1],
                         ("sum", DESK), (DESK, 1), (None, (0, 0)), ("mirror",), ("move", (0, 0)), ("Sum", 1), (("sum",), 1),
                         {"sum": 1}, ("sum", (0, 0)), ("empty", 1), ("silent", 1), ("undone",), ("empty silent", (0, 0))]


def keeps(rings, items, claim):
    """Whether a claim holds, as the document tells it."""
    row = row_of(rings, items)
    if claim[0] == "empty":
        return items[all_places(rings).index(claim[1])] == 0
    if claim[0] == "silent":
        return claim[1] not in sounding(rings, row)
    if claim[0] == "sum":
        return sum(items) == claim[1]
    return judge_undone(rings, row)[0] == "undone"


def done(rings, items, deed):
    """The whole row behind a deed, place by place."""
    places = all_places(rings)
    found = [0] * len(items)
    for (i, x), (k, y) in itertools.product(enumerate(places), repeat=2):
        if deed[0] == "mix":
            found[places.index(place_sum(rings, x, y))] += items[i] * deed[1][k]
        elif deed[0] == "move" and y == deed[1]:
            found[places.index(place_sum(rings, x, y))] = items[i]
        elif deed[0] == "mirror" and y == place_times(rings, x, -1):
            found[k] = items[i]
    if deed[0] == "add":
        found = [one + other for one, other in zip(items, deed[1])]
    if deed[0] == "set":
        found = [deed[2] if place == deed[1] else item for place, item in zip(places, items)]
    return tuple(found)


class Model:
    """A desk as a list of all standings and how far it has come in it."""

    def __init__(self, rings, items):
        self.all, self.at = [(rings, items, ())], 0

    def standing(self):
        return self.all[self.at]

    def go(self, standing):
        self.all, self.at = self.all[:self.at + 1] + [standing], self.at + 1

    def do(self, deed):
        rings, items, claims = self.standing()
        found = done(rings, items, deed)
        if max(found) > MOST or min(found) < -MOST:
            return TooMany, "most", MOST
        for claim in claims:
            if not keeps(rings, found, claim):
                return Unkept, "claim", claim
        return self.go((rings, found, claims))

    def claim(self, claim):
        rings, items, claims = self.standing()
        if claim in claims:
            return BadClaim, "thing", claim
        if not keeps(rings, items, claim):
            return Unkept, "claim", claim
        return self.go((rings, items, tuple(sorted(claims + (claim,)))))

    def release(self, claim):
        rings, items, claims = self.standing()
        if claim not in claims:
            return NoClaim, "thing", claim
        return self.go((rings, items, tuple(one for one in claims if one != claim)))

    def undo(self):
        if self.at == 0:
            return NothingToUndo, None, None
        self.at -= 1

    def redo(self):
        if self.at + 1 == len(self.all):
            return NothingToRedo, None, None
        self.at += 1

    def text(self):
        rings, items, claims = self.standing()
        lines = [("rings", *rings), ("row", *items)]
        for claim in claims:
            lines.append((claim[0], *claim[1]) if claim[0] in ("empty", "silent") else claim)
        return "\n".join(" ".join(map(str, line)) for line in lines)


def some_deed(rings, dice):
    items = tuple(dice.choice((0, 0, 0, 1, -1, 2)) for _ in range(size_of(rings)))
    place = dice.choice(all_places(rings))
    great = tuple(dice.choice((0, MOST, -MOST)) for _ in items)
    return dice.choice((("add", items), ("mix", items), ("move", place), ("mirror",), ("set", place, dice.randrange(-2, 3)),
                        ("set", place, 0), ("mix", (1,) + (0,) * (len(items) - 1)), ("add", dice.choice((items, great))),
                        ("set", place, dice.choice((MOST, -MOST, MOST + 1, -MOST - 1, 1))), ("move", place), ("mirror",)))


def some_claim(rings, items, dice):
    place = dice.choice(all_places(rings))
    return dice.choice((("empty", place), ("empty", place), ("silent", place), ("silent", place), ("undoable",),
                        ("sum", sum(items)), ("sum", sum(items)), ("sum", dice.randrange(-3, 4))))


class Sequences(unittest.TestCase):

    def check_same(self, desk, model):
        rings, items, claims = model.standing()
        self.assertTrue(same(desk.standing(), model.standing()))
        self.assertTrue(same((desk.row(), desk.claims()), (items, claims)))
        self.assertTrue(same((desk.undoable(), desk.redoable()), (model.at, len(model.all) - 1 - model.at)))
        self.assertTrue(same(desk.text(), model.text()))
        self.assertEqual(claims, tuple(sorted(claims)))
        for claim in claims:
            self.assertTrue(keeps(rings, items, claim))

    def step(self, desk, model, name, *values):
        """The same step of both; tells the error, if there is one."""
        told = getattr(model, name)(*values)
        if told is None:
            self.assertIsNone(getattr(desk, name)(*values))
        else:
            error, attribute, value = told
            with self.assertRaises(error) as caught:
                getattr(desk, name)(*values)
            self.assertIs(caught.exception.__class__, error)
            self.assertEqual(vars(caught.exception), {attribute: value} if attribute else {})
        self.check_same(desk, model)
        return told and told[0]

    def run_sequence(self, rings, seed, many):
        dice = random.Random(f"{rings} {seed}")
        items = tuple(dice.choice((0, 0, 1, -1, 3)) for _ in range(size_of(rings)))
        desk, model, told = Desk(rings, items), Model(rings, items), []
        for _ in range(many):
            name = dice.choice(("do", "do", "do", "claim", "claim", "release", "undo", "undo", "redo"))
            values = ()
            if name == "do":
                values = (some_deed(rings, dice),)
            if name in ("claim", "release"):
                values = (some_claim(rings, desk.row(), dice),)
            if name == "release" and desk.claims() and dice.random() < .6:
                values = (dice.choice(desk.claims()),)
            if name != "claim" or len(desk.claims()) < 8:
                told.append((name, self.step(desk, model, name, *values)))
        again = read_desk(desk.text())
        self.assertIs(again.is_same(desk) and desk.is_same(again), True)
        return told

    def test_long_ones(self):
        told = []
        for rings in SMALL_RINGS:
            for seed in range(12):
                told += self.run_sequence(rings, seed, 60)
        for name, error in [("do", None), ("do", TooMany), ("do", Unkept), ("claim", None), ("claim", BadClaim),
                            ("claim", Unkept), ("release", None), ("release", NoClaim), ("undo", None),
                            ("undo", NothingToUndo), ("redo", None), ("redo", NothingToRedo)]:
            self.assertTrue(told.count((name, error)) > 10, (name, error))

    def test_more_rings(self):
        for rings in SOME_RINGS[7:]:
            for seed in range(2):
                self.run_sequence(rings, seed, 50)

    def test_forty_deeds(self):
        for rings in SOME_RINGS:
            dice = random.Random(f"{rings}")
            n = size_of(rings)
            desk, model = Desk(rings, (1,) + (0,) * (n - 1)), Model(rings, (1,) + (0,) * (n - 1))
            while model.at < 40:
                self.step(desk, model, "do", some_deed(rings, dice))
            for _ in range(41):
                self.step(desk, model, "undo")
            for _ in range(41):
                self.step(desk, model, "redo")

    def test_eight_claims(self):
        desk = Desk((12,), (0,) * 12)
        claims = [("sum", 0), ("silent", (0,)), ("empty", (11,)), ("silent", (7,)), ("empty", (2,)), ("empty", (10,)),
                  ("silent", (11,)), ("empty", (0,))]
        for claim in claims:
            desk.claim(claim)
        self.assertEqual(desk.claims(), tuple(sorted(claims)))
        self.assertEqual(desk.text(), "rings 12\nrow" + " 0" * 12 + "\nempty 0\nempty 2\nempty 10\nempty 11\nsilent 0\n"
                         "silent 7\nsilent 11\nsum 0")
        self.assertEqual(desk.undoable(), 8)
        with self.assertRaises(Unkept) as caught:
            desk.do(("add", (1,) * 12))
        self.assertEqual(caught.exception.claim, ("empty", (0,)))
        for claim in claims:
            desk.release(claim)
        self.assertEqual((desk.claims(), desk.undoable()), ((), 16))


class Deeds(unittest.TestCase):

    def test_each_deed(self):
        for rings in SOME_RINGS:
            n, dice = size_of(rings), random.Random(f"{rings}")
            items, other = [tuple(dice.randrange(-9, 10) for _ in range(n)) for _ in "ab"]
            place = all_places(rings)[-1]
            row = row_of(rings, items)
            for deed, found in [(("add", other), row_of(rings, tuple(a + b for a, b in zip(items, other)))),
                                (("mix", other), mixed(rings, row, row_of(rings, other))),
                                (("move", place), moved(rings, row, place)), (("mirror",), mirrored(rings, row)),
                                (("set", place, 7), row_of(rings, items[:-1] + (7,)))]:
                desk = Desk(rings, items)
                self.assertIsNone(desk.do(deed))
                self.assertEqual(row_of(rings, desk.row()), found)
                self.assertEqual((desk.undoable(), desk.redoable(), desk.claims()), (1, 0, ()))
                self.assertIsNone(desk.undo())
                self.assertEqual((desk.row(), desk.undoable(), desk.redoable()), (items, 0, 1))
                self.assertIsNone(desk.redo())
                self.assertEqual((row_of(rings, desk.row()), desk.undoable(), desk.redoable()), (found, 1, 0))

    def test_deeds_that_change_nothing(self):
        desk = Desk((3,), (1, 2, 3))
        for many, deed in enumerate([("add", (0, 0, 0)), ("mix", (1, 0, 0)), ("move", (0,)), ("set", (1,), 2)], start=1):
            desk.do(deed)
            self.assertEqual((desk.row(), desk.undoable()), ((1, 2, 3), many))

    def test_greatest_items(self):
        for rings in [(2,), (6,), (2, 6)]:
            n = size_of(rings)
            desk = Desk(rings, (0,) * n)
            place = all_places(rings)[-1]
            for item in (MOST, -MOST):
                desk.do(("set", place, item))
                self.assertEqual(desk.row()[-1], item)
                for deed in [("set", place, item + (1 if item > 0 else -1)), ("set", all_places(rings)[0], 10 * item),
                             ("set", place, 10 ** 99), ("add", (0,) * (n - 1) + (item // MOST,)), ("mix", (2,) + (0,) * (n - 1)),
                             ("mix", (0,) * (n - 1) + (-2,)), ("add", (10 * MOST,) * n)]:
                    with self.assertRaises(TooMany) as caught:
                        desk.do(deed)
                    self.assertTrue(same(vars(caught.exception), {"most": MOST}))
                    self.assertEqual(desk.row()[-1], item)
                for deed in [("move", place), ("mirror",), ("mix", (-1,) + (0,) * (n - 1)), ("add", (0,) * n)]:
                    desk.do(deed)
                    desk.undo()
            self.assertEqual(desk.undoable(), 2)

    def test_order_of_errors(self):
        desk = Desk((6,), (1, 0, 0, 1, 0, 0))
        for claim in [("silent", (1,)), ("sum", 2), ("empty", (5,)), ("empty", (1,))]:
            desk.claim(claim)
        standing = desk.standing()
        for deed, error, value in [(("set", (0,), True), BadDeed, ("set", (0,), True)), (("set", (0,), 10 ** 13), TooMany, MOST),
                                   (("add", (5, 5, 5, 5, 5, 5)), Unkept, ("empty", (1,))),
                                   (("add", (5, 0, 5, 5, 5, 5)), Unkept, ("empty", (5,))),
                                   (("set", (0,), 5), Unkept, ("silent", (1,))),
                                   (("add", (1, 0, 0, 1, 0, 0)), Unkept, ("sum", 2)),
                                   (("mix", (10 ** 12, 1, 0, 0, 0, 0)), Unkept, ("empty", (1,))),
                                   (("mix", (10 ** 12 + 1, 1, 0, 0, 0, 0)), TooMany, MOST)]:
            with self.assertRaises(error) as caught:
                desk.do(deed)
            self.assertEqual(list(vars(caught.exception).values()), [value])
            self.assertIs(desk.standing(), standing)
        self.assertEqual((desk.undoable(), desk.redoable()), (4, 0))

    def test_errors_keep_what_can_be_redone(self):
        desk = Desk((2, 3), (0,) * 6)
        desk.claim(("sum", 0))
        desk.do(("mirror",))
        desk.undo()
        for call in [lambda: desk.do(("add",)), lambda: desk.do(("set", (0, 0), 10 ** 13)), lambda: desk.do(("set", (0, 0), 1)),
                     lambda: desk.claim(("sum", 0)), lambda: desk.claim(("undoable",)), lambda: desk.claim(None),
                     lambda: desk.release(("sum", 1)), lambda: desk.release(("sum", False)), lambda: read_desk("")]:
            self.assertRaises(RingError, call)
            self.assertEqual((desk.undoable(), desk.redoable()), (1, 1))
        desk.redo()
        desk.undo()
        desk.undo()
        self.assertRaises(NothingToUndo, desk.undo)
        self.assertEqual((desk.undoable(), desk.redoable(), desk.claims()), (0, 2, ()))
        desk.redo()
        desk.release(("sum", 0))
        self.assertEqual((desk.undoable(), desk.redoable()), (2, 0))
        self.assertRaises(NothingToRedo, desk.redo)

    def test_any_value(self):
        desk = Desk((2, 3), RIGHT_WHOLE)
        desk.do(("mirror",))
        desk.undo()
        for thing in NOT_DEEDS:
            kept = copy_of(thing)
            assert_raises(self, BadDeed, "thing", thing, lambda: desk.do(thing))
            assert_raises(self, BadDeed, "thing", thing, lambda: desk.do(deed=thing))
            self.assertTrue(same(thing, kept))
        self.assertEqual((desk.standing(), desk.redoable()), (((2, 3), RIGHT_WHOLE, ()), 1))
        assert_desk_kept(self)

    def test_nearly_right_deeds(self):
        for deed in [("add", (1, 2)), ("mix", (0, 1)), ("move", (1,)), ("mirror",), ("set", (1,), 3)]:
            for thing in changed(deed) + [(word, *deed[1:]) for word in ("add", "mix", "move", "mirror", "set")]:
                desk = Desk((2,), (1, 4))
                if self.is_deed_of_two(thing):
                    try:
                        desk.do(thing)
                        self.assertEqual(desk.row(), done((2,), (1, 4), thing))
                    except TooMany:
                        self.assertTrue(max(map(abs, done((2,), (1, 4), thing))) > MOST)
                else:
                    with self.assertRaises(BadDeed) as caught:
                        desk.do(thing)
                    self.assertIs(caught.exception.thing, thing)

    def is_deed_of_two(self, thing):
        """Whether a thing is a deed for the rings (2,)."""
        if type(thing) is not tuple or thing == () or type(thing[0]) is not str:
            return False
        is_place = len(thing) > 1 and type(thing[1]) is tuple and [type(x) for x in thing[1]] == [int] and thing[1][0] in (0, 1)
        is_row = len(thing) > 1 and type(thing[1]) is tuple and [type(x) for x in thing[1]] == [int, int]
        return (thing == ("mirror",) or len(thing) == 2 and (thing[0] == "move" and is_place or thing[0] in ("add", "mix")
                and is_row) or len(thing) == 3 and thing[0] == "set" and is_place and type(thing[2]) is int)


class Claims(unittest.TestCase):

    def test_each_claim(self):
        for rings in SOME_RINGS:
            n, dice = size_of(rings), random.Random(f"{rings}")
            wholes = [(0,) * n, (1,) * n, (1,) + (0,) * (n - 1), (1, -1) + (0,) * (n - 2)]
            wholes += [tuple(dice.choice((0, 1, -1)) for _ in range(n)) for _ in "abc"]
            for items in wholes:
                things = [(word, place) for word in ("empty", "silent") for place in all_places(rings)]
                things += [("sum", sum(items)), ("sum", sum(items) + 1), ("sum", 10 ** 99), ("undoable",)]
                for thing in things:
                    desk = Desk(rings, items)
                    if keeps(rings, items, thing):
                        self.assertIsNone(desk.claim(thing))
                        self.assertEqual((desk.claims(), desk.undoable()), ((thing,), 1))
                        with self.assertRaises(BadClaim) as caught:
                            desk.claim(thing)
                        self.assertEqual(caught.exception.thing, thing)
                        self.assertIsNone(desk.release(thing))
                        self.assertEqual((desk.claims(), desk.undoable()), ((), 2))
                    else:
                        with self.assertRaises(Unkept) as caught:
                            desk.claim(thing)
                        self.assertTrue(same(vars(caught.exception), {"claim": thing}))
                        self.assertEqual((desk.claims(), desk.undoable()), ((), 0))
                    assert_raises(self, NoClaim, "thing", thing, lambda: desk.release(thing))

    def test_any_value(self):
        desk = Desk((2, 3), (0, 0, 0, 1, 0, 0))
        for claim in [("empty", (0, 0)), ("empty", (0, 1)), ("sum", 1), ("undoable",)]:
            desk.claim(claim)
        for thing in NOT_CLAIMS:
            kept = copy_of(thing)
            assert_raises(self, BadClaim, "thing", thing, lambda: desk.claim(thing))
            assert_raises(self, NoClaim, "thing", thing, lambda: desk.release(thing))
            with self.assertRaises(BadClaim):
                desk.claim(thing=thing)
            with self.assertRaises(NoClaim):
                desk.release(thing=thing)
            self.assertTrue(same(thing, kept))
        self.assertEqual((desk.undoable(), len(desk.claims())), (4, 4))
        assert_desk_kept(self)

    def test_claims_that_are_equal_but_none(self):
        # True is equal to 1: the things are equal to claims of the desk, but are none.
        desk = Desk((2,), (1, 0))
        for claim, thing in [(("sum", 1), ("sum", True)), (("empty", (1,)), ("empty", (True,)))]:
            desk.claim(claim)
            assert_raises(self, NoClaim, "thing", thing, lambda: desk.release(thing))
            assert_raises(self, BadClaim, "thing", thing, lambda: desk.claim(thing))
        self.assertEqual(desk.claims(), (("empty", (1,)), ("sum", 1)))

    def test_order_of_errors(self):
        # A claim that the desk has is wrong, whether it would hold or not; one that it has not has to hold.
        desk = Desk((3,), (1, 0, 0))
        desk.claim(("empty", (1,)))
        self.assertRaises(BadClaim, desk.claim, ("empty", (1,)))
        self.assertRaises(Unkept, desk.claim, ("empty", (0,)))
        self.assertRaises(NoClaim, desk.release, ("empty", (0,)))
        self.assertRaises(NoClaim, desk.release, ("empty", (2,)))

    def test_ascending(self):
        claims = [("undoable",), ("sum", 1), ("silent", (1, 1)), ("empty", (1, 2)), ("empty", (0, 1)), ("silent", (0, 1))]
        items = (1, 0, 0, 0, 0, 0)
        for order in itertools.permutations([claims[0], claims[1], claims[3], claims[4]]):
            desk = Desk((2, 3), items)
            for claim in order:
                desk.claim(claim)
            self.assertEqual(desk.claims(), (("empty", (0, 1)), ("empty", (1, 2)), ("sum", 1), ("undoable",)))


class Same(unittest.TestCase):

    def test_is_same(self):
        desk = Desk((2, 3), (1, 0, 0, 0, 0, 0))
        for other in [Desk((2, 3), (1, 0, 0, 0, 0, 0)), desk, desk.copied(), read_desk("rings 2 3\nrow 1 0 0 0 0 0")]:
            self.assertIs(desk.is_same(other), True)
            self.assertIs(other.is_same(thing=desk), True)
        for other in [Desk((6,), (1, 0, 0, 0, 0, 0)), Desk((2, 3), (1, 0, 0, 0, 0, 1)), DESK]:
            self.assertIs(desk.is_same(other), False)
            self.assertIs(other.is_same(desk), False)
        for thing in NOTHINGS + [desk.standing(), desk.row(), desk.text(), Desk, [desk], (desk,), {desk: desk}]:
            self.assertIs(desk.is_same(thing), False)
        other = desk.copied()
        other.claim(("sum", 1))
        self.assertIs(desk.is_same(other), False)
        self.assertIs(other.is_same(DESK), True)
        other.undo()
        self.assertIs(desk.is_same(other), True)
        assert_desk_kept(self)

    def test_copied(self):
        desk = Desk((4,), (1, 0, -1, 0))
        desk.claim(("silent", (0,)))
        desk.do(("mirror",))
        desk.undo()
        other = desk.copied()
        self.assertIs(other.__class__, Desk)
        self.assertEqual((other.standing(), other.undoable(), other.redoable()), (desk.standing(), 0, 0))
        self.assertRaises(NothingToUndo, other.undo)
        self.assertRaises(NothingToRedo, other.redo)
        other.do(("move", (1,)))
        other.release(("silent", (0,)))
        self.assertEqual((desk.standing(), desk.undoable(), desk.redoable()),
                         (((4,), (1, 0, -1, 0), (("silent", (0,)),)), 1, 1))
        desk.undo()
        self.assertEqual((other.standing(), other.undoable()), (((4,), (0, 1, 0, -1), ()), 2))

    def test_nothing_else_changes(self):
        desk = Desk((4,), (1, 0, -1, 0))
        desk.claim(("silent", (0,)))
        desk.do(("mirror",))
        desk.undo()
        told = (desk.standing(), desk.undoable(), desk.redoable())
        for call in [desk.standing, desk.row, desk.claims, desk.text, desk.undoable, desk.redoable, desk.copied,
                     lambda: desk.is_same(desk), lambda: read_desk(desk.text())]:
            first, second = call(), call()
            if not isinstance(first, Desk):
                self.assertTrue(same(first, second))
            self.assertEqual((desk.standing(), desk.undoable(), desk.redoable()), told)

    def test_values(self):
        rings, items = (2, 3), (1, 2, 3, 4, 5, 6)
        desk = Desk(rings=rings, whole=items)
        self.assertTrue(same(desk.standing(), (rings, items, ())))
        self.assertEqual((desk.undoable(), desk.redoable()), (0, 0))

    def test_wrongs(self):
        for wrong in NOT_RINGS:
            assert_raises(self, BadRings, "thing", wrong, lambda: Desk(wrong, RIGHT_WHOLE))
            assert_raises(self, BadRings, "thing", wrong, lambda: Desk(whole=None, rings=wrong))
        for wrong in NOT_WHOLES:
            assert_raises(self, BadWhole, "thing", wrong, lambda: Desk((2, 3), wrong))
        assert_desk_kept(self)


class Texts(unittest.TestCase):

    TEXTS = ["rings 2\nrow 1 0\nempty 1\nsum 1\nundoable", "rings 6\nrow 1 1 0 1 1 0\nsilent 1\nsum 4",
             "rings 2 3\nrow 1 0 0 0 0 0\nempty 0 1\nempty 0 2\nempty 1 0\nsum 1\nundoable", "rings 3\nrow -1 0 1",
             "rings 2 2\nrow 1000000000000 -1000000000000 10 -10\nsilent 0 0\nsum 0", "rings 12\nrow" + " 0" * 12 +
             "\nempty 9\nempty 10\nempty 11\nsilent 0\nsilent 2\nsilent 10\nsum 0"]

    def test_there_and_back(self):
        for text in self.TEXTS:
            desk = read_desk(text)
            self.assertIs(desk.__class__, Desk)
            self.assertEqual(desk.text(), text)
            self.assertEqual((desk.undoable(), desk.redoable()), (0, 0))
            self.assertIs(read_desk(text=desk.text()).is_same(desk), True)
        for rings in SOME_RINGS:
            dice = random.Random(f"{rings}")
            desk = Desk(rings, tuple(dice.choice((0, 1, -1, MOST, -MOST, 7)) for _ in range(size_of(rings))))
            for claim in [(word, place) for word in ("empty", "silent") for place in all_places(rings)][::2]:
                if keeps(rings, desk.row(), claim) and len(desk.claims()) < 7:
                    desk.claim(claim)
            desk.claim(("sum", sum(desk.row())))
            self.assertIs(read_desk(desk.text()).is_same(desk), True)

    def wrong_line(self, text):
        """The number of the first wrong line, as the document tells it; None if there is none."""
        lines = [line.split(" ") for line in text.split("\n")]
        rings = self.integers(lines[0], "rings")
        if not rings or len(rings) > 4 or min(rings) < 2 or self.product(rings) > 60:
            return 1
        items = self.integers(lines[1], "row") if len(lines) > 1 else None
        if items is None or len(items) != self.product(rings) or any(abs(item) > MOST for item in items):
            return 2
        ahead = ()
        for at, line in enumerate(lines[2:], start=3):
            numbers = self.integers(line, line[0])
            if numbers is None:
                return at
            if line[0] in ("empty", "silent") and numbers in all_places(rings):
                claim = (line[0], numbers)
            elif line[0] == "sum" and len(numbers) == 1:
                claim = (line[0], *numbers)
            elif line == ["undoable"]:
                claim = ("undoable",)
            else:
                return at
            if claim <= ahead or not keeps(rings, items, claim):
                return at
            ahead = claim
        return None

    def integers(self, words, first):
        if words[0] != first:
            return None
        try:
            found = tuple(int(word) for word in words[1:])
        except ValueError:
            return None
        return found if list(map(str, found)) == words[1:] else None

    def product(self, numbers):
        total = 1
        for number in numbers:
            total *= number
        return total

    def check(self, text):
        at = self.wrong_line(text)
        if at is None:
            self.assertEqual(read_desk(text).text(), text)
        else:
            with self.assertRaises(BadText, msg=text) as caught:
                read_desk(text)
            self.assertTrue(same(vars(caught.exception), {"at": at}), (text, at, vars(caught.exception)))
        return at

    def test_changed_anywhere(self):
        told = []
        for text in self.TEXTS[:4]:
            for at in range(len(text) + 1):
                for more in (" ", "\n", "0", "1", "-", "+", "a", "_", ".", "\t", "9", "\r", "\n\n"):
                    told.append(self.check(text[:at] + more + text[at:]))
                    told.append(self.check(text[:at] + more + text[at + 1:]))
                told.append(self.check(text[:at] + text[at + 1:]))
                told.append(self.check(text[:at]))
                told.append(self.check(text[at:]))
        self.assertTrue(min(told.count(at) for at in (1, 2, 3, 4, 5, None)) > 20)

    def test_lines_changed(self):
        for text in self.TEXTS:
            lines = text.split("\n")
            for one, other in itertools.product(range(len(lines)), repeat=2):
                swapped = list(lines)
                swapped[one], swapped[other] = swapped[other], swapped[one]
                self.check("\n".join(swapped))
                self.check("\n".join(lines[:one] + [lines[other]] + lines[one:]))
            for at in range(len(lines) + 1):
                self.check("\n".join(lines[:at]))
                self.check("\n".join(lines[at:]))
                self.check("\n".join(lines[:at] + lines[at + 1:]))
                for more in ("", " ", "sum 0", "sum 1", "undoable", "empty 1", "empty 0 0", "silent 0", "rings 2", "row 1 0"):
                    self.check("\n".join(lines[:at] + [more] + lines[at:]))

    def test_words_changed(self):
        for text in self.TEXTS:
            lines = [line.split(" ") for line in text.split("\n")]
            for i, line in enumerate(lines):
                for k, word in enumerate(line):
                    for other in ("", "0", "-0", "00", "1", "01", "-1", "+1", "1.0", "1_0", "2", "1e1", "undoable", "sum", "silent",
                                  "empty", "row", "rings", "Sum", "SUM", word + word, "-" + word, "0" + word, "+" + word,
                                  word + " ", " " + word, "10000000000000", "1000000000001", "-1000000000001", "9" * 99, "--1",
                                  "-", "60", "61", "True", "None", "1,"):
                        other_line = line[:k] + [other] + line[k + 1:]
                        self.check("\n".join(" ".join(part) for part in lines[:i] + [other_line] + lines[i + 1:]))

    def test_by_hand(self):
        for text, at in [("", 1), ("rings", 1), ("rings 2", 2), ("rings 2\n", 2), ("rings 2\nrow 1", 2), ("rings 1\nrow 1", 1),
                         ("rings 61\nrow 1", 1), ("rings 2 2 2 2 2\nrow 1", 1), (" rings 2\nrow 1 0", 1), ("rings  2\nrow 1 0", 1),
                         ("rings 2\nrow 1 0\n", 3), ("rings 2\nrow 1 0\nsum 2", 3), ("rings 2\nrow 1 0\nsum 1\nsum 1", 4),
                         ("rings 2\nrow 1 0\nsum 1\nempty 1", 4), ("rings 2\nrow 1 0\nempty 0", 3), ("rings 2\nrow 1 0\nempty 2", 3),
                         ("rings 2\nrow 1 0\nundoable\nundoable", 4), ("rings 2\nrow 1 1\nundoable", 3),
                         ("rings 2\nrow 1 1\nsilent 1\nsilent 0", 4), ("rings 2\nrow 1 0 0\nsum 1", 2), ("row 1 0\nrings 2", 1),
                         ("rings 2\nrow 1000000000001 0", 2), ("rings 2\nrow 0 -1000000000001", 2), ("\nrings 2\nrow 1 0", 1),
                         ("rings 2\n\nrow 1 0", 2), ("rings 2 \nrow 1 0", 1), ("rings 2\nrow 1 0 ", 2), ("rings 2\nrow -0 1", 2),
                         ("rings 2\nrow 1 0\nsum 01", 3), ("rings 2\nrow 1 0\nsum +1", 3), ("rings 2\nrow 1 0\nsum", 3),
                         ("rings 2\nrow 1 0\nsum 1 ", 3), ("rings 2\nrow 1 0\nundoable ", 3), ("rings 2\nrow 1 0\nempty", 3),
                         ("rings 2\r\nrow 1 0", 1), ("rings 2\nrow 1 0\nsum " + "9" * 1900, 3), ("rings " + "9" * 1900, 1),
                         ("rings 2\nrow 1 " + "9" * 5000, 2), ("rings \u0662\nrow 1 0", 1), ("rings \u00b2\nrow 1 0", 1)]:
            with self.assertRaises(BadText) as caught:
                read_desk(text)
            self.assertTrue(same(vars(caught.exception), {"at": at}), text)

    def test_order_of_claims(self):
        # Claims ascend as tuples do, not as lines: 9 is ahead of 10.
        text = "rings 12\nrow" + " 0" * 12 + "\nempty 9\nempty 10"
        self.assertEqual(read_desk(text).text(), text)
        self.check("rings 12\nrow" + " 0" * 12 + "\nempty 10\nempty 9")
        self.assertEqual(self.check("rings 12\nrow" + " 0" * 12 + "\nempty 10\nempty 9"), 4)

    def test_any_value(self):
        for thing in NOTHINGS + [0, 1, b"rings 2\nrow 1 0", ["rings 2", "row 1 0"], ("rings 2\nrow 1 0",), Desk]:
            with self.assertRaises(BadText) as caught:
                read_desk(thing)
            self.assertTrue(same(vars(caught.exception), {"at": 1 if isinstance(thing, str) else 0}))
        assert_desk_kept(self)


if __name__ == "__main__":
    unittest.main()
