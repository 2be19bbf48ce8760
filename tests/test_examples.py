"""The examples of the document, as they stand there, and those of the README."""

import doctest
import pathlib
import unittest

RINGS = """
>>> from ringvoices.rings import all_places, are_rings, classes, lot_times, moved_lot, order_of, pairing, place_sum, place_times, seat_of, size_of, subgroup
>>> [are_rings((2, 3)), are_rings((1, 4)), size_of((2, 3)), order_of((2, 4)), all_places((2, 2)), seat_of((2, 3), (1, 1)), place_sum((2, 3), (1, 2), (1, 2)), place_times((5,), (2,), -1)]
[True, False, 6, 4, ((0, 0), (0, 1), (1, 0), (1, 1)), 4, (0, 1), (3,)]
>>> [pairing((2, 3), (1, 2), (1, 1)), moved_lot((5,), ((0,), (4,)), (2,)), lot_times((6,), ((1,), (4,)), 2), subgroup((6,), ((4,),)), classes((6,))]
[1, ((1,), (2,)), ((2,),), ((0,), (2,), (4,)), (((0,),), ((1,), (5,)), ((2,), (4,)), ((3,),))]
"""

NUMBERS = """
>>> from ringvoices.numbers import exchanged, inverse, is_number, lifted, loudness, norm, number_of, plus, ring_polynomial, times, trace, turn
>>> [ring_polynomial(6), ring_polynomial(5), is_number(3, ((2, 4), 2)), number_of(3, (2, 4), 2), number_of(3, (1, 1, 1), 5), turn(4, 3), turn(6, 2)]
[(1, -1, 1), (1, 1, 1, 1, 1), False, ((1, 2), 1), ((0, 0), 1), ((0, -1), 1), ((-1, 1), 1)]
>>> [plus(4, turn(4, 1), turn(4, 0)), times(4, ((1, 1), 1), ((1, 1), 2)), inverse(4, ((1, 1), 1)), exchanged(5, turn(5, 1), 2), norm(4, ((1, 1), 1)), trace(3, turn(3, 1)), loudness(4, ((3, 4), 1)), lifted(2, ((5,), 3), 4), lifted(3, turn(3, 1), 6)]
[((1, 1), 1), ((0, 1), 1), ((1, -1), 2), ((0, 0, 1, 0), 1), (2, 1), (-1, 1), ((25, 0), 1), ((5, 0), 3), ((-1, 1), 1)]
"""

VOICES = """
>>> from ringvoices.voices import filled, row_back, row_of, sounding, voice, voices, whole_of
>>> PAIR = row_of((6,), (1, 0, 0, 1, 0, 0))
>>> [PAIR[:2], voice((6,), PAIR, (2,)), filled((6,), PAIR), sounding((6,), PAIR), whole_of((6,), voices((6,), PAIR)), row_back((6,), voices((6,), PAIR)) == PAIR]
[(((1, 0), 1), ((0, 0), 1)), ((2, 0), 1), ((0,), (3,)), ((0,), (2,), (4,)), (2, 0, 2, 0, 2, 0), True]
"""

MIXING = """
>>> from ringvoices.mixing import judge_undone, judge_whole, mirrored, mixed, moved, power, single, undone_holds, whole_holds
>>> from ringvoices.voices import row_of, whole_of
>>> STEP = row_of((5,), (1, 1, 0, 0, 0))
>>> [whole_of((5,), mixed((5,), STEP, STEP)), whole_of((5,), moved((5,), STEP, (4,))), whole_of((5,), mirrored((5,), STEP)), whole_of((5,), power((5,), STEP, 3)), whole_of((2, 2), single((2, 2)))]
[(1, 2, 1, 0, 0), (1, 0, 0, 0, 1), (1, 0, 0, 0, 1), (1, 3, 3, 1, 0), (1, 0, 0, 0)]
>>> [judge_undone((6,), row_of((6,), (1, 0, 0, 1, 0, 0)))[0], judge_whole((5,), (1, 1, 0, 0, 0)), judge_whole((5,), (-1, 1, 0, 0, 1)), whole_holds((5,), (1, 1, 0, 0, 0), ("voice", (1,), 1))]
['silent', ('voice', (0,), 16), ('undone', (-1, 0, 1, 1, 0)), False]
"""

SILENCE = """
>>> from ringvoices.silence import class_sum, row_with_silent, whole_with_silent, are_classes
>>> from ringvoices.voices import filled, row_of, sounding
>>> [sounding((4,), row_with_silent((4,), ((1,),))), class_sum((6,), (1,), (2,)), class_sum((6,), (2,), (3,)), are_classes((6,), ((1,), (5,))), whole_with_silent((6,), ((1,),)), sounding((6,), row_of((6,), whole_with_silent((6,), ((0,), (1,), (5,)))))]
[((0,), (2,), (3,)), -1, 2, True, None, ((2,), (3,), (4,))]
"""

LOWEST = """
>>> from ringvoices.voices import filled, row_of, sounding
>>> from ringvoices.lowest import judge_pair, least, least_row, pair_holds, room
>>> [[least((6,), k) for k in (1, 2, 3, 4, 5, 6)], [least((2, 4), k) for k in (2, 3, 4)], least((7,), 3), least((60,), 12), len(sounding((6,), least_row((6,), 2))), room((5,), ((0,), (1,), (2,)), ((0,), (1,), (2,))), room((6,), ((0,), (3,)), ((0,), (2,), (4,)))]
[[6, 3, 2, 2, 2, 1], [4, 4, 2], 5, 5, 3, 1, 1]
>>> [judge_pair((5,), ((0,), (1,)), ((0,), (1,), (2,)))[0] in ('place', 'label'), judge_pair((5,), ((0,), (1,), (2,)), ((0,), (1,), (2,)))[0], pair_holds((2,), ((0,),), ((0,),), ('place', (0,), (((1,), 1),))), pair_holds((4,), ((0,), (2,)), ((0,), (2,)), ('row', row_of((4,), (5, 0, 5, 0)))), judge_pair((2,), (), ((0,),))[0]]
[True, 'row', True, True, 'label']
"""


class Examples(unittest.TestCase):

    def run_examples(self, text, many):
        test = doctest.DocTestParser().get_doctest(text, {}, "examples", None, 0)
        told = []
        results = doctest.DocTestRunner(verbose=False).run(test, out=told.append)
        self.assertEqual((results.failed, results.attempted), (0, many), "".join(told))

    def test_rings(self):
        self.run_examples(RINGS, 3)

    def test_numbers(self):
        self.run_examples(NUMBERS, 3)

    def test_voices(self):
        self.run_examples(VOICES, 3)

    def test_mixing(self):
        self.run_examples(MIXING, 5)

    def test_silence(self):
        self.run_examples(SILENCE, 3)

    def test_lowest(self):
        self.run_examples(LOWEST, 4)

    def test_readme(self):
        readme = pathlib.Path(__file__).resolve().parent.parent / "README.md"
        # Outside of the fences no line is an example.
        self.run_examples("\n".join(readme.read_text(encoding="utf-8").split("```")[1::2]), 22)


if __name__ == "__main__":
    unittest.main()
