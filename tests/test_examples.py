"""The examples of the document, as they stand there, and those of the README."""

import doctest
import pathlib
import re
import unittest

from ringvoices.errors import RingError

RINGS = """
>>> from ringvoices.rings import all_places, are_rings, classes, lot_times, moved_lot, order_of, pairing, place_sum, place_times, seat_of, size_of, subgroup
>>> [are_rings((2, 3)), are_rings((1, 4)), size_of((2, 3)), order_of((2, 4)), all_places((2, 2)), seat_of((2, 3), (1, 1)), place_sum((2, 3), (1, 2), (1, 2)), place_times((5,), (2,), -1)]
[True, False, 6, 4, ((0, 0), (0, 1), (1, 0), (1, 1)), 4, (0, 1), (3,)]
>>> [pairing((2, 3), (1, 2), (1, 1)), moved_lot((5,), ((0,), (4,)), (2,)), lot_times((6,), ((1,), (4,)), 2), subgroup((6,), ((4,),)), classes((6,))]
[1, ((1,), (2,)), ((2,),), ((0,), (2,), (4,)), (((0,),), ((1,), (5,)), ((2,), (4,)), ((3,),))]
"""

NUMBERS = """
>>> from ringvoices.numbers import exchanged, inverse, is_number, lifted, loudness, norm, number_of, plus, ring_polynomial, times, trace, turn
>>> [ring_polynomial(6), ring_polynomial(5), is_number(3, ((2, 4), 2)), number_of(3, (2, 4), 2), number_of(3, (1, 1, 1), 5), turn(4, 3), turn(6, 2)]
[(1, -1, 1), (1, 1, 1, 1, 1), False, ((1, 2), 1), ((0, 0), 1), ((0, -1), 1), ((-1, 1), 1)]
>>> [plus(4, turn(4, 1), turn(4, 0)), times(4, ((1, 1), 1), ((1, 1), 2)), inverse(4, ((1, 1), 1)), exchanged(5, turn(5, 1), 2), norm(4, ((1, 1), 1)), trace(3, turn(3, 1)), loudness(4, ((3, 4), 1)), lifted(2, ((5,), 3), 4), lifted(3, turn(3, 1), 6)]
[((1, 1), 1), ((0, 1), 1), ((1, -1), 2), ((0, 0, 1, 0), 1), (2, 1), (-1, 1), ((25, 0), 1), ((5, 0), 3), ((-1, 1), 1)]
"""

VOICES = """
>>> from ringvoices.voices import filled, row_back, row_of, sounding, voice, voices, whole_of
>>> PAIR = row_of((6,), (1, 0, 0, 1, 0, 0))
>>> [PAIR[:2], voice((6,), PAIR, (2,)), filled((6,), PAIR), sounding((6,), PAIR), whole_of((6,), voices((6,), PAIR)), row_back((6,), voices((6,), PAIR)) == PAIR]
[(((1, 0), 1), ((0, 0), 1)), ((2, 0), 1), ((0,), (3,)), ((0,), (2,), (4,)), (2, 0, 2, 0, 2, 0), True]
"""

MIXING = """
>>> from ringvoices.mixing import judge_undone, judge_whole, mirrored, mixed, moved, power, single, undone_holds, whole_holds
>>> from ringvoices.voices import row_of, whole_of
>>> STEP = row_of((5,), (1, 1, 0, 0, 0))
>>> [whole_of((5,), mixed((5,), STEP, STEP)), whole_of((5,), moved((5,), STEP, (4,))), whole_of((5,), mirrored((5,), STEP)), whole_of((5,), power((5,), STEP, 3)), whole_of((2, 2), single((2, 2)))]
[(1, 2, 1, 0, 0), (1, 0, 0, 0, 1), (1, 0, 0, 0, 1), (1, 3, 3, 1, 0), (1, 0, 0, 0)]
>>> [judge_undone((6,), row_of((6,), (1, 0, 0, 1, 0, 0)))[0], judge_whole((5,), (1, 1, 0, 0, 0)), judge_whole((5,), (-1, 1, 0, 0, 1)), whole_holds((5,), (1, 1, 0, 0, 0), ("voice", (1,), 1))]
['silent', ('voice', (0,), 16), ('undone', (-1, 0, 1, 1, 0)), False]
"""

SILENCE = """
>>> from ringvoices.silence import class_sum, row_with_silent, whole_with_silent, are_classes
>>> from ringvoices.voices import filled, row_of, sounding
>>> [sounding((4,), row_with_silent((4,), ((1,),))), class_sum((6,), (1,), (2,)), class_sum((6,), (2,), (3,)), are_classes((6,), ((1,), (5,))), whole_with_silent((6,), ((1,),)), sounding((6,), row_of((6,), whole_with_silent((6,), ((0,), (1,), (5,)))))]
[((0,), (2,), (3,)), -1, 2, True, None, ((2,), (3,), (4,))]
"""

LOWEST = """
>>> from ringvoices.voices import filled, row_of, sounding
>>> from ringvoices.lowest import judge_pair, least, least_row, pair_holds, room
>>> [[least((6,), k) for k in (1, 2, 3, 4, 5, 6)], [least((2, 4), k) for k in (2, 3, 4)], least((7,), 3), least((60,), 12), len(sounding((6,), least_row((6,), 2))), room((5,), ((0,), (1,), (2,)), ((0,), (1,), (2,))), room((6,), ((0,), (3,)), ((0,), (2,), (4,)))]
[[6, 3, 2, 2, 2, 1], [4, 4, 2], 5, 5, 3, 1, 1]
>>> [judge_pair((5,), ((0,), (1,)), ((0,), (1,), (2,)))[0] in ('place', 'label'), judge_pair((5,), ((0,), (1,), (2,)), ((0,), (1,), (2,)))[0], pair_holds((2,), ((0,),), ((0,),), ('place', (0,), (((1,), 1),))), pair_holds((4,), ((0,), (2,)), ((0,), (2,)), ('row', row_of((4,), (5, 0, 5, 0)))), judge_pair((2,), (), ((0,),))[0]]
[True, 'row', True, True, 'label']
"""

TELLING = """
>>> from ringvoices.voices import row_of
>>> from ringvoices.telling import does_tell, judge_telling, least_telling, sure_number, telling_holds
>>> [does_tell((6,), ((0,), (1,)), 1, 0), does_tell((6,), ((0,), (2,), (4,)), 1, 0), judge_telling((6,), ((0,), (2,), (4,)), 1, 0)[0], telling_holds((4,), ((0,), (2,)), 1, 0, ('alike', row_of((4,), (1, 0, 0, 0)), row_of((4,), (0, 0, 1, 0))))]
[True, False, 'alike', True]
>>> [len(least_telling((6,), 1, 0)), sure_number((6,), 1, 0), sure_number((5,), 2, 0), sure_number((5,), 1, 1), sure_number((5,), 2, 1), sure_number((7,), 2, 1)]
[2, 4, 4, 4, None, 6]
"""

HEARD = """
>>> from ringvoices.heard import fits, heard_holds, judge_heard, slips, sure_items
>>> from ringvoices.numbers import turn
>>> from ringvoices.voices import row_of
>>> ONE, TWO = row_of((5,), (0, 3, 0, 0, 0)), row_of((5,), (0, 0, 2, 0, 0))
>>> HEARD = tuple([((k,), ((3, 0, 0, 0), 1) if k == 0 else ((0, 3, 0, 0), 1) if k == 1 else ((1, 0, 0, 0), 1)) for k in (0, 1, 2)])
>>> [fits((5,), ONE, HEARD, 1, 1), fits((5,), ONE, HEARD, 1, 0), slips((5,), ONE, HEARD), slips((5,), TWO, HEARD)]
[True, False, ((2,),), ((0,), (1,), (2,))]
>>> [judge_heard((5,), HEARD[:2], 1, 0) == ('one', ONE), judge_heard((5,), HEARD, 1, 0), judge_heard((5,), HEARD[:1], 1, 0)[0], sure_items((5,), HEARD[:1], 1, 0), len(sure_items((5,), HEARD[:2], 1, 0))]
[True, ('none',), 'two', (), 5]
"""

DIFFERENCES = """
>>> from ringvoices.differences import companions, differences, differences_hold, is_turned, judge_differences, lot_differences
>>> from ringvoices.voices import row_of, whole_of
>>> [lot_differences((7,), ((0,), (1,), (3,))), whole_of((5,), differences((5,), row_of((5,), (1, 2, 0, 0, 0)))), is_turned((7,), ((0,), (1,), (3,)), ((0,), (2,), (3,))), is_turned((6,), ((0,), (1,)), ((0,), (2,)))]
[(3, 1, 1, 1, 1, 1, 1), (5, 2, 0, 0, 2), True, False]
>>> [judge_differences((5,), (1, 2, 0, 0, 0), (2, 1, 0, 0, 0))[0], judge_differences((5,), (1, 2, 0, 0, 0), (1, 1, 0, 0, 0))[0], differences_hold((3,), (1, 0, 0), (0, 1, 0), ('turns', row_of((3,), (0, 1, 0)))), len(companions((4,), ((0,), (1,))))]
['turns', 'label', True, 4]
>>> from ringvoices.flat import difference_lots, flat_holds, is_difference_lot, judge_flat, multipliers
>>> [judge_flat((7,), (1, 1, 0, 1, 0, 0, 0)), judge_flat((5,), (1, 1, 0, 0, 0))[0], is_difference_lot((7,), ((0,), (1,), (3,))), len(difference_lots((7,), 3)), multipliers((7,), ((0,), (1,), (3,))), flat_holds((3,), (5, 0, 0), ('flat', 25))]
[('flat', 2), 'labels', True, 14, (1, 2, 4), True]
"""

HALVES = """
>>> from ringvoices.halves import further_places, half_holds, is_seen, item_holds, judge_half, judge_item, judge_voice, open_room
>>> from ringvoices.voices import row_of
>>> NIL, TWO = ((0,), 1), ((2,), 1)
>>> [judge_half((2,), (((0,), TWO),), (((0,), TWO),)) == ('row', row_of((2,), (2, 0))), judge_half((2,), (((0,), TWO), ((1,), TWO)), (((0,), TWO),))[0], judge_item((2,), (((0,), TWO),), (((0,), TWO),), (1,)), judge_voice((2,), (((0,), TWO),), (), (1,))[0]]
[True, 'weights', ('sure', (((-1,), 1),), (((1,), 1),)), 'open']
>>> [half_holds((2,), (((0,), TWO), ((1,), TWO)), (((0,), TWO),), ('weights', (((1,), 1), ((1,), 1)), (((-1,), 1),))), open_room((7,), ((0,), (1,)), ((3,),)), len(further_places((6,), (), ((0,), (2,), (4,))))]
[True, 4, 3]
>>> from ringvoices.coarse import coarse_rings, fallen, folded, judge_thinning, thinned
>>> [coarse_rings((6, 4), (3, 1)), fallen((6,), (2,), (5,)), thinned((6,), (1, 2, 3, 4, 5, 6), (2,)), folded((6,), (1, 2, 3, 4, 5, 6), (2,)), judge_thinning((6,), ((0,), (1,), (2,)), (2,)), judge_thinning((6,), ((0,), (3,)), (2,))]
[(2, 4), (2,), (1, 3, 5), (5, 7, 9), ('told',), ('pair', (0,), (3,))]
"""

DESKS = r"""
>>> from ringvoices.desks import Desk, read_desk
>>> desk = Desk((6,), (1, 0, 0, 1, 0, 0))
>>> [desk.claim(('silent', (1,))), desk.do(('mix', (1, 1, 0, 0, 0, 0))), desk.row(), desk.undoable(), desk.claim(('sum', 4)), desk.text()]
[None, None, (1, 1, 0, 1, 1, 0), 2, None, 'rings 6\nrow 1 1 0 1 1 0\nsilent 1\nsum 4']
>>> desk.do(('set', (0,), 5))
raises Unkept(claim=('silent', (1,)))
>>> [desk.undo(), desk.redoable(), desk.release(('silent', (1,))), desk.do(('set', (0,), 5)), desk.standing(), read_desk(desk.text()).is_same(desk)]
[None, 1, None, None, ((6,), (5, 1, 0, 1, 1, 0), ()), True]
>>> desk.claim(('empty', (0,)))
raises Unkept(claim=('empty', (0,)))
>>> read_desk('rings 2\nrow 1 0\nsum 1\nempty 1')
raises BadText(at=4)
"""


def raised(call):
    """Prints the error that a call raises, as the document tells it."""
    try:
        call()
    except RingError as error:
        told = ", ".join(f"{name}={value!r}" for name, value in vars(error).items())
        print(f"{error.__class__.__name__}({told})")


class Examples(unittest.TestCase):

    def run_examples(self, text, many):
        text = re.sub(">>> (.*)\nraises (.*)\n", r">>> raised(lambda: \1)\n\2\n", text)
        test = doctest.DocTestParser().get_doctest(text, {"raised": raised}, "examples", None, 0)
        told = []
        results = doctest.DocTestRunner(verbose=False).run(test, out=told.append)
        self.assertEqual((results.failed, results.attempted), (0, many), "".join(told))

    def test_rings(self):
        self.run_examples(RINGS, 3)

    def test_numbers(self):
        self.run_examples(NUMBERS, 3)

    def test_voices(self):
        self.run_examples(VOICES, 3)

    def test_mixing(self):
        self.run_examples(MIXING, 5)

    def test_silence(self):
        self.run_examples(SILENCE, 3)

    def test_lowest(self):
        self.run_examples(LOWEST, 4)

    def test_telling(self):
        self.run_examples(TELLING, 4)

    def test_heard(self):
        self.run_examples(HEARD, 7)

    def test_differences(self):
        self.run_examples(DIFFERENCES, 6)

    def test_halves(self):
        self.run_examples(HALVES, 7)

    def test_desks(self):
        self.run_examples(DESKS, 7)

    def test_readme(self):
        readme = pathlib.Path(__file__).resolve().parent.parent / "README.md"
        # Outside of the fences no line is an example.
        self.run_examples("\n".join(readme.read_text(encoding="utf-8").split("```")[1::2]), 45)


if __name__ == "__main__":
    unittest.main()
