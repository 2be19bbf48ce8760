"""The interface: which functions stand in which file, with which parameters."""

import importlib
import inspect
import unittest

FUNCTIONS = {
    "ringvoices.rings": {
        "are_rings": "thing", "size_of": "rings", "order_of": "rings", "all_places": "rings",
        "seat_of": "rings place", "place_sum": "rings one other", "place_times": "rings place many",
        "pairing": "rings place label", "is_lot": "rings thing", "moved_lot": "rings places place",
        "lot_times": "rings places many", "subgroup": "rings places", "classes": "rings",
    },
    "ringvoices.numbers": {
        "ring_polynomial": "order", "is_number": "order thing", "number_of": "order items bottom",
        "turn": "order power", "plus": "order one other", "minus": "order one other", "times": "order one other",
        "inverse": "order number", "exchanged": "order number j", "norm": "order number", "trace": "order number",
        "loudness": "order number", "lifted": "order number other",
    },
    "ringvoices.voices": {
        "is_row": "rings thing", "is_whole": "rings thing", "row_of": "rings whole", "whole_of": "rings row",
        "voice": "rings row label", "voices": "rings row", "row_back": "rings row", "filled": "rings row",
        "sounding": "rings row",
    },
    "ringvoices.mixing": {
        "mixed": "rings one other", "single": "rings", "moved": "rings row place", "mirrored": "rings row",
        "turned_row": "rings row", "power": "rings row n", "judge_undone": "rings row",
        "undone_holds": "rings row thing", "judge_whole": "rings whole", "whole_holds": "rings whole thing",
    },
    "ringvoices.silence": {
        "row_with_silent": "rings labels", "whole_with_silent": "rings labels", "are_classes": "rings labels",
        "class_sum": "rings label place",
    },
    "ringvoices.lowest": {
        "least": "rings k", "least_row": "rings k", "room": "rings places labels", "base_of": "rings places labels",
        "is_base": "rings places labels thing", "judge_pair": "rings places labels",
        "pair_holds": "rings places labels thing",
    },
}


class Interface(unittest.TestCase):

    def test_functions(self):
        for module, functions in FUNCTIONS.items():
            for name, parameters in functions.items():
                with self.subTest(module=module, name=name):
                    function = getattr(importlib.import_module(module), name)
                    self.assertTrue(inspect.isfunction(function))
                    self.assertEqual((function.__module__, function.__name__), (module, name))
                    found = inspect.signature(function).parameters.values()
                    self.assertEqual([one.name for one in found], parameters.split())
                    for one in found:
                        self.assertIs(one.kind, inspect.Parameter.POSITIONAL_OR_KEYWORD)
                        self.assertIs(one.default, inspect.Parameter.empty)


if __name__ == "__main__":
    unittest.main()
