"""The errors: their names, bases, parameters and attributes."""

import pickle
import unittest

from ringvoices import errors

PARAMETERS = {
    "BadRings": "thing", "BadPlace": "thing", "BadLot": "thing", "BadOrder": "thing", "BadNumber": "thing",
    "BadCount": "thing", "BadRow": "thing", "BadWhole": "thing", "BadItems": "thing", "BadHeard": "thing",
    "BadSeen": "thing", "BadSteps": "thing", "Nought": None, "Unfit": "certificate", "TooMany": "most",
    "BadDeed": "thing", "BadClaim": "thing", "Unkept": "claim", "NoClaim": "thing", "NothingToUndo": None,
    "NothingToRedo": None, "BadText": "at",
}
VALUES = [None, True, 0, -5, 10 ** 99, "", "a b", "a {b} \n", (), (1, (2, True)), [], [1, [2]], {}, {"a": [1]}, object()]


class Errors(unittest.TestCase):

    def test_there_are_just_these(self):
        found = [name for name, thing in vars(errors).items() if isinstance(thing, type)]
        self.assertEqual(sorted(found), sorted([*PARAMETERS, "RingError"]))
        self.assertEqual(len(PARAMETERS), 22)

    def test_bases(self):
        self.assertEqual(errors.RingError.__bases__, (Exception,))
        for name in PARAMETERS:
            self.assertEqual(getattr(errors, name).__bases__, (errors.RingError,), name)
            self.assertEqual(getattr(errors, name).__module__, "ringvoices.errors", name)

    def test_parameters_are_attributes(self):
        for name, parameter in PARAMETERS.items():
            for value in VALUES if parameter is not None else []:
                with self.subTest(name=name, value=value):
                    error = getattr(errors, name)(value)
                    self.assertIs(getattr(error, parameter), value)
                    self.assertEqual(list(vars(error)), [parameter])
                    error = getattr(errors, name)(**{parameter: value})
                    self.assertIs(getattr(error, parameter), value)
                    self.assertEqual(list(vars(error)), [parameter])

    def test_no_parameters(self):
        for name, parameter in PARAMETERS.items():
            made = getattr(errors, name)
            if parameter is None:
                self.assertEqual(vars(made()), {})
                self.assertRaises(TypeError, made, 1)
                self.assertRaises(TypeError, made, thing=1)
            else:
                self.assertRaises(TypeError, made)
                self.assertRaises(TypeError, made, 1, 2)
                self.assertRaises(TypeError, made, **{parameter + "_": 1})

    def test_they_are_raised_and_caught(self):
        for name, parameter in PARAMETERS.items():
            passed = () if parameter is None else ((1, [2]),)
            with self.assertRaises(errors.RingError) as caught:
                raise getattr(errors, name)(*passed)
            self.assertEqual(caught.exception.__class__.__name__, name)
            self.assertIsInstance(str(caught.exception), str)
        with self.assertRaises(errors.RingError):
            raise errors.RingError()

    def test_they_can_be_packed(self):
        for name, parameter in PARAMETERS.items():
            error = getattr(errors, name)(*(() if parameter is None else ((1, "a"),)))
            again = pickle.loads(pickle.dumps(error))
            self.assertIs(again.__class__, error.__class__)
            self.assertEqual(vars(again), vars(error))


if __name__ == "__main__":
    unittest.main()
