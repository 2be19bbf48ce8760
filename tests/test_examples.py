"""The examples of the document, as they stand there, and those of the README."""

import doctest
import pathlib
import unittest

RINGS = """
>>> from ringvoices.rings import all_places, are_rings, classes, lot_times, moved_lot, order_of, pairing, place_sum, place_times, seat_of, size_of, subgroup
>>> [are_rings((2, 3)), are_rings((1, 4)), size_of((2, 3)), order_of((2, 4)), all_places((2, 2)), seat_of((2, 3), (1, 1)), place_sum((2, 3), (1, 2), (1, 2)), place_times((5,), (2,), -1)]
[True, False, 6, 4, ((0, 0), (0, 1), (1, 0), (1, 1)), 4, (0, 1), (3,)]
>>> [pairing((2, 3), (1, 2), (1, 1)), moved_lot((5,), ((0,), (4,)), (2,)), lot_times((6,), ((1,), (4,)), 2), subgroup((6,), ((4,),)), classes((6,))]
[1, ((1,), (2,)), ((2,),), ((0,), (2,), (4,)), (((0,),), ((1,), (5,)), ((2,), (4,)), ((3,),))]
"""

NUMBERS = """
>>> from ringvoices.numbers import exchanged, inverse, is_number, lifted, loudness, norm, number_of, plus, ring_polynomial, times, trace, turn
>>> [ring_polynomial(6), ring_polynomial(5), is_number(3, ((2, 4), 2)), number_of(3, (2, 4), 2), number_of(3, (1, 1, 1), 5), turn(4, 3), turn(6, 2)]
[(1, -1, 1), (1, 1, 1, 1, 1), False, ((1, 2), 1), ((0, 0), 1), ((0, -1), 1), ((-1, 1), 1)]
>>> [plus(4, turn(4, 1), turn(4, 0)), times(4, ((1, 1), 1), ((1, 1), 2)), inverse(4, ((1, 1), 1)), exchanged(5, turn(5, 1), 2), norm(4, ((1, 1), 1)), trace(3, turn(3, 1)), loudness(4, ((3, 4), 1)), lifted(2, ((5,), 3), 4), lifted(3, turn(3, 1), 6)]
[((1, 1), 1), ((0, 1), 1), ((1, -1), 2), ((0, 0, 1, 0), 1), (2, 1), (-1, 1), ((25, 0), 1), ((5, 0), 3), ((-1, 1), 1)]
"""


class Examples(unittest.TestCase):

    def run_examples(self, text, many):
        test = doctest.DocTestParser().get_doctest(text, {}, "examples", None, 0)
        told = []
        results = doctest.DocTestRunner(verbose=False).run(test, out=told.append)
        self.assertEqual((results.failed, results.attempted), (0, many), "".join(told))

    def test_rings(self):
        self.run_examples(RINGS, 3)

    def test_numbers(self):
        self.run_examples(NUMBERS, 3)

    def test_readme(self):
        readme = pathlib.Path(__file__).resolve().parent.parent / "README.md"
        # Outside of the fences no line is an example.
        self.run_examples("\n".join(readme.read_text(encoding="utf-8").split("```")[1::2]), 10)


if __name__ == "__main__":
    unittest.main()
