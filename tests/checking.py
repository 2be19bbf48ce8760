"""What several tests need: wrong values, and calls with wrong values in every place."""

import copy
import itertools

from ringvoices.desks import Desk


class Stranger:
    """An object that is of no kind that the package knows."""

    def __deepcopy__(self, memo):
        return self


STRANGER = Stranger()

# Desks are values, too: nothing but their own methods changes them.
DESK = Desk((2, 3), (1, 0, 0, 0, 0, 0))
DESK.claim(("sum", 1))

DESKS = [DESK, (DESK,), [DESK], {"desk": DESK}, (DESK, DESK), (DESK, 0), ((DESK,),), [(DESK, [DESK])]]

NOTHINGS = [None, True, False, "", "ab", "0 1\n2", [], {}, [0], {0: 1}, {"a": (1,)}, STRANGER, (None,), ("",), ([],),
            ({},), (STRANGER,), ((),), ((((((((((((1,),),),),),),),),),),),), tuple(range(2000)), [[0], [1]], *DESKS]

NOT_INTEGERS = NOTHINGS + [(), (0,), (1, 2), "1", 1.0]

NOT_RINGS = NOTHINGS + [(), 0, 6, (0,), (1,), (-2,), (61,), (True,), (2, True), (True, 2), (2, 1), (1, 2), (2, 0),
                        (-2, -3), (2, -3, -1), (7, 9), (2, 2, 2, 8), (2, 2, 2, 2, 2), (2, 2, 2, 2, 2, 2), [2, 3],
                        (2, [3]), (2, (3,)), (2, "3"), (2, None), (10 ** 100,), (10 ** 99, 2), (2, 3.0), "23"]

# For the rings (2, 3).
NOT_PLACES = NOTHINGS + [(), 0, 4, (0,), (0, 0, 0), (2, 0), (0, 3), (-1, 0), (0, -1), (1, -3), (10 ** 100, 0), [0, 0],
                         [1, 2], (True, 0), (0, True), (False, 2), (1, False), "00", (0, "0"), (0, None), (0, [0]),
                         ([0], 0), (0, (0,)), ((0, 0),), (0, 0.0), {0: 0, 1: 0}]

# For the rings (2, 3).
NOT_LOTS = NOTHINGS + [((0, 0), DESK), 0, (0,), (0, 0), ((0,),), ((0, 1), (0, 0)), ((0, 0), (0, 0)), ((0, 0), (1, 0), (0, 1)),
                            ((0, 0), (0, 1), (0, 1)), ((1, 2), (1, 2)), [(0, 0)], [(0, 0), (0, 1)], [[0, 0]],
                            ([0, 0],), ((0, 0), [0, 1]), ([0, 0], (0, 1)), ((0, 0), None), (None, (0, 0)),
                            ((0, 0), "01"), ((0, 0), (0, 3)), ((0, 0), (2, 0)), ((-1, 0), (0, 0)), ((False, 0),),
                            ((0, 0), (0, True)), ((0, 0), (True, 0)), ((0, 0), (1,)), ((0, 0), (1, 0, 0)), ("00",),
                            ((0, 0), ((1, 0),)), ((0, 0), {0: 1}), "ab", {(0, 0): True}]

NOT_ORDERS = NOT_INTEGERS + [0, -1, -60, 61, 120, 10 ** 100]

# For the order 4.
NOT_NUMBERS = NOTHINGS + [0, 1, (), (1,), (1, 1), ((1, 1),), ((1, 1), 1, 1), (1, (1, 1)), ((1,), 1), ((1, 1, 1), 1),
                          ((), 1), ((0, 0), 2), ((0, 0), 0), ((0, 0), -1), ((1, 1), 0), ((1, 1), -1), ((-1, -1), -1),
                          ((2, 4), 2), ((3, 0), 3), ((0, 6), 9), ((2 * 10 ** 39, 10), 2), ((1, 1), True),
                          ((True, 0), 1), ((0, False), 1), ((1, True), 2), [(1, 1), 1], ([1, 1], 1), ((1, [1]), 1),
                          ((1, (1,)), 1), ((1, "1"), 1), ((1, None), 1), ((1, 1), None), ((1, 1), "1"),
                          ((1, 1), (1,)), ((1, 1), [1]), ((1, 1.0), 1), "11", ("11", 1), {0: (1, 1), 1: 1}]

# For the rings (2, 3), of the order 6.
RIGHT_ROW = (((0, 0), 1), ((1, 0), 1), ((-1, 2), 3), ((0, 5), 2), ((7, 7), 3), ((-1, 0), 1))

NOT_ROWS = NOTHINGS + [0, (), (0, 0, 0, 0, 0, 0), (1, 2, 3, 4, 5, 6), list(RIGHT_ROW), RIGHT_ROW[:-1],
                       RIGHT_ROW + RIGHT_ROW[:1], RIGHT_ROW[0], (RIGHT_ROW,), dict(enumerate(RIGHT_ROW))]
NOT_ROWS += [RIGHT_ROW[:at] + (wrong,) + RIGHT_ROW[at + 1:] for at in (0, 3, 5) for wrong in (
    None, 0, "1", (), [(0, 0), 1], ([0, 0], 1), ((0, 0), 2), ((0, 0), 0), ((0,), 1), ((0, 0, 0), 1), ((2, 4), 2),
    ((1, 0), -1), ((True, 0), 1), ((0, False), 1), ((1, 0), True), ((1, 0), "1"), ((0, 0), 1, 1), ((0, 0),),
    ((1, 1.0), 1), ((0, 0), None), (((0, 0), 1),), DESK, (DESK, 1), ((0, 0), DESK), ((0, DESK), 1))]

RIGHT_WHOLE = (0, 1, -2, 10 ** 12 - 1, 0, 1)

NOT_WHOLES = NOTHINGS + [0, (), list(RIGHT_WHOLE), RIGHT_WHOLE[:-1], RIGHT_WHOLE + (0,), (RIGHT_WHOLE,), RIGHT_ROW,
                         dict(enumerate(RIGHT_WHOLE)), "000000", ((0, 0, 0), (0, 0, 0)), (0,) * 5, (0,) * 7]
NOT_WHOLES += [RIGHT_WHOLE[:at] + (wrong,) + RIGHT_WHOLE[at + 1:] for at in (0, 3, 5)
               for wrong in (None, True, False, "1", "", (), (1,), [1], {}, 1.0, ((1, 0), 1), DESK)]

# For a size of 6.
NOT_COUNTS = NOT_INTEGERS + [0, -1, 7, 8, 60, -10 ** 99, 10 ** 99]

# For how many may be heard wrong.
NOT_SLIPS = NOT_INTEGERS + [-1, -2, -10 ** 99]

# For the rings (2, 3), of the order 6: heard voices, or seen items.
RIGHT_PAIRS = (((0, 0), ((1, 0), 1)), ((0, 2), ((0, 0), 1)), ((1, 1), ((-1, 3), 2)))

NOT_PAIRS = NOTHINGS + [0, list(RIGHT_PAIRS), RIGHT_PAIRS[0], RIGHT_PAIRS[::-1], RIGHT_PAIRS[:1] * 2,
                        RIGHT_PAIRS + RIGHT_PAIRS[:1], RIGHT_PAIRS + (((1, 1), ((0, 0), 1)),), dict(RIGHT_PAIRS),
                        (((1, 1), ((0, 0), 1)), ((1, 1), ((1, 0), 1))), ((0, 0), (0, 2)), (((1, 0), 1), ((0, 0), 1)),
                        RIGHT_ROW, (((1, 0), 1),), (((0, 0),),), (((0, 0), ((1, 0), 1), 0),)]
NOT_PAIRS += [RIGHT_PAIRS[:at] + (wrong,) + RIGHT_PAIRS[at + 1:] for at in (0, 1, 2) for place, number in [RIGHT_PAIRS[at]]
              for wrong in (None, 0, (), DESK, [place, number], (number, place), (place,), (place, number, 0),
                            (place, None), (place, 1), (place, (1, 0)), (place, ((1, 0), 0)), (place, ((2, 0), 2)),
                            (place, ((1, True), 1)), (place, ((1, 0), True)), (place, ((1,), 1)), (place, [(1, 0), 1]),
                            (place, ([1, 0], 1)), (place, DESK), (place, ((1, 0, 0), 1)), (DESK, number),
                            (list(place), number), (place[:1], number), ((*place, 0), number), ((2, 0), number),
                            ((0, 3), number), ((-1, 0), number), ((False, place[1]), number), (None, number))]

# For the rings (2, 3): the first ring has the step 1 only, the second one too.
NOT_STEPS = NOTHINGS + [0, 1, (), (1,), (1, 1, 1), (2, 1), (1, 3), (2, 3), (1, 2), (3, 1), (0, 1), (1, 0), (-1, 1),
                        (1, -1), (1, -3), [1, 1], (True, 1), (1, True), (1, 1.0), (1, "1"), ("1", 1), (1, None), "11",
                        (1, (1,)), ((1, 1),), (1, [1]), (1, DESK), (10 ** 99, 1), {0: 1, 1: 1}]

# None of these is a certificate of anything.
NOT_CERTIFICATES = NOTHINGS + [(), 0, ("undone",), ("silent",), ("voice",), ("row",), ("place",), ("label",), "undone",
                               ("undone", None), ("silent", None), ("row", None), ("undone", ()), ("silent", ()),
                               ("row", ()), ("undone", []), ("silent", 0), ("silent", [0]), ("row", {}),
                               ("voice", None, None), ("voice", (), 0), ("voice", 0, 0), ("voice", (0, 0), "0"),
                               ("place", None, None), ("label", None, None), ("place", (), ()), ("label", (), ()),
                               ("place", [], []), ("label", 0, ()), (None, None), (None, None, None), (1, 2), (0, 0, 0),
                               ({}, []), ([], {}, ()), (STRANGER, STRANGER), (STRANGER,) * 3, ["silent", (0, 0)],
                               ("silent", (0, 0), 1), ("silent", ((0, 0),)), ("tells",), ("none",), ("told",),
                               ("row", (), ()), ("undone", (0, 0), 0), ("silent", (0, True)), ("silent", [0, 0]),
                               ("one",), ("two",), ("one", None), ("one", ()), ("two", None, None), ("two", (), ()),
                               ("alike",), ("alike", None, None), ("alike", (), ()), ("alike", [], []), ("turns",),
                               ("turns", None), ("turns", ()), ("label", None), ("label", [0, 0]), ("label", (0, True)),
                               ("flat",), ("flat", None), ("flat", True), ("flat", "0"), ("flat", (0, 1)), ("flat", 1, 1),
                               ("labels",), ("labels", None, None), ("labels", 0, 1), ("labels", [0, 1], [1, 0]),
                               ("labels", (0, 1), None), ("weights",), ("weights", None, None), ("weights", [], []),
                               ("weights", (None,), (None,)), ("sure",), ("sure", None, None), ("sure", 0, 0),
                               ("sure", [], ()), ("open",), ("open", None, None), ("open", (), ()), ("open", [], []),
                               ("pair",), ("pair", None, None), ("pair", 0, 1), ("pair", [0, 0], [0, 1]), ("pair", (), ()),
                               (DESK, DESK, DESK), (DESK, (), ()), ("row", DESK), ("alike", DESK, DESK), ("one", DESK),
                               ("two", DESK, DESK), ("turns", DESK), ("label", DESK), ("flat", DESK),
                               ("labels", DESK, DESK), ("labels", (0, 1), DESK), ("weights", DESK, DESK),
                               ("weights", (DESK,), (DESK,)), ("sure", DESK, ()), ("open", DESK, DESK),
                               ("pair", DESK, DESK), ("pair", (0, 0), DESK), ("undone", DESK), ("silent", DESK),
                               ("voice", DESK, 0), ("voice", (0, 0), DESK), ("place", DESK, ()), ("label", (0, 0), DESK)]


def copy_of(thing):
    """A copy at every depth, with the same desk in it: a desk is itself alone."""
    return copy.deepcopy(thing, {id(DESK): DESK})


def assert_desk_kept(test):
    """Nobody has changed the desk."""
    test.assertEqual(DESK.standing(), ((2, 3), (1, 0, 0, 0, 0, 0), (("sum", 1),)))
    test.assertEqual((DESK.undoable(), DESK.redoable()), (1, 0))


def same(one, other):
    """Whether two values are alike in everything, 1 and True being unlike."""
    return repr(one) == repr(other) and one == other


def assert_raises(test, error, name, value, call):
    """The call raises just this error, with the very value as its attribute."""
    with test.assertRaises(error) as caught:
        call()
    test.assertIs(caught.exception.__class__, error)
    test.assertEqual(list(vars(caught.exception)), [name])
    test.assertIs(getattr(caught.exception, name), value)


def check_wrongs_beside(test, function, parameters):
    """The same for a function that takes any thing behind these parameters: the thing hides no error."""
    for thing in (None, (), ("silent", (0, 0)), [{}], RIGHT_ROW):
        def with_thing(*values, **named):
            return function(*values, **named, thing=thing)
        check_wrongs(test, with_thing, parameters)


def check_any_value(test, function, values, more=()):
    """The function takes any thing behind these values, and answers False to each that is none."""
    for thing in [*NOT_CERTIFICATES, *more]:
        kept = copy_of(thing)
        with test.subTest(function=function.__name__, thing=thing):
            test.assertIs(function(*values, thing), False)
            test.assertIs(function(*values, thing=thing), False)
            test.assertTrue(same(thing, kept))
    assert_desk_kept(test)


def check_wrongs(test, function, parameters):
    """Each parameter is (name, a right value, wrong values, its error): all wrong ones, and all sets of wrong ones."""
    names = [name for name, _, _, _ in parameters]
    right = [good for _, good, _, _ in parameters]
    function(*right)
    test.assertTrue(same(function(**dict(zip(names, right))), function(*right)))
    for at, (_, _, wrongs, error) in enumerate(parameters):
        for wrong in wrongs:
            values = right[:at] + [wrong] + right[at + 1:]
            check_first(test, function, names, values, wrong, error)
    for wrong_ones in itertools.product((False, True), repeat=len(parameters)):
        for seed in range(5 if any(wrong_ones) else 0):
            # Unlike wrong values, so that the error tells which of them it is about.
            values = [wrongs[(seed * 7 + at * 11) % len(wrongs)] if is_wrong else good
                      for at, (is_wrong, (_, good, wrongs, _)) in enumerate(zip(wrong_ones, parameters))]
            first = wrong_ones.index(True)
            check_first(test, function, names, values, values[first], parameters[first][3])
    assert_desk_kept(test)


def check_first(test, function, names, values, wrong, error):
    """The call raises this error with this value, however it is passed, and changes none of the values."""
    kept = copy_of(values)
    with test.subTest(function=function.__name__, values=values):
        assert_raises(test, error, "thing", wrong, lambda: function(*values))
        assert_raises(test, error, "thing", wrong, lambda: function(**dict(zip(names, values))))
        test.assertTrue(same(values, kept))
