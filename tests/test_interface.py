"""The interface: which functions stand in which file, with which parameters."""

import importlib
import inspect
import unittest

FUNCTIONS = {
    "ringvoices.rings": {
        "are_rings": "thing", "size_of": "rings", "order_of": "rings", "all_places": "rings",
        "seat_of": "rings place", "place_sum": "rings one other", "place_times": "rings place many",
        "pairing": "rings place label", "is_lot": "rings thing", "moved_lot": "rings places place",
        "lot_times": "rings places many", "subgroup": "rings places", "classes": "rings",
    },
    "ringvoices.numbers": {
        "ring_polynomial": "order", "is_number": "order thing", "number_of": "order items bottom",
        "turn": "order power", "plus": "order one other", "minus": "order one other", "times": "order one other",
        "inverse": "order number", "exchanged": "order number j", "norm": "order number", "trace": "order number",
        "loudness": "order number", "lifted": "order number other",
    },
    "ringvoices.voices": {
        "is_row": "rings thing", "is_whole": "rings thing", "row_of": "rings whole", "whole_of": "rings row",
        "voice": "rings row label", "voices": "rings row", "row_back": "rings row", "filled": "rings row",
        "sounding": "rings row",
    },
    "ringvoices.mixing": {
        "mixed": "rings one other", "single": "rings", "moved": "rings row place", "mirrored": "rings row",
        "turned_row": "rings row", "power": "rings row n", "judge_undone": "rings row",
        "undone_holds": "rings row thing", "judge_whole": "rings whole", "whole_holds": "rings whole thing",
    },
    "ringvoices.silence": {
        "row_with_silent": "rings labels", "whole_with_silent": "rings labels", "are_classes": "rings labels",
        "class_sum": "rings label place",
    },
    "ringvoices.lowest": {
        "least": "rings k", "least_row": "rings k", "room": "rings places labels", "base_of": "rings places labels",
        "is_base": "rings places labels thing", "judge_pair": "rings places labels",
        "pair_holds": "rings places labels thing",
    },
    "ringvoices.telling": {
        "does_tell": "rings labels k e", "judge_telling": "rings labels k e", "telling_holds": "rings labels k e thing",
        "least_telling": "rings k e", "sure_number": "rings k e",
    },
    "ringvoices.heard": {
        "is_heard": "rings thing", "fits": "rings row heard k e", "slips": "rings row heard",
        "judge_heard": "rings heard k e", "heard_holds": "rings heard k e thing", "sure_items": "rings heard k e",
    },
    "ringvoices.differences": {
        "differences": "rings row", "lot_differences": "rings places", "judge_differences": "rings whole other",
        "differences_hold": "rings whole other thing", "is_turned": "rings places labels", "companions": "rings places",
    },
    "ringvoices.flat": {
        "judge_flat": "rings whole", "flat_holds": "rings whole thing", "is_difference_lot": "rings places",
        "difference_lots": "rings c", "multipliers": "rings places",
    },
    "ringvoices.halves": {
        "is_seen": "rings thing", "judge_half": "rings seen heard", "half_holds": "rings seen heard thing",
        "judge_item": "rings seen heard place", "judge_voice": "rings seen heard label",
        "item_holds": "rings seen heard place thing", "voice_holds": "rings seen heard label thing",
        "open_room": "rings places labels", "further_places": "rings places labels",
    },
    "ringvoices.coarse": {
        "is_steps": "rings thing", "coarse_rings": "rings steps", "fallen": "rings steps label",
        "thinned": "rings whole steps", "folded": "rings whole steps", "judge_thinning": "rings labels steps",
        "thinning_holds": "rings labels steps thing",
    },
    "ringvoices.desks": {"read_desk": "text"},
}

DESK = {
    "standing": "", "row": "", "claims": "", "text": "", "undoable": "", "redoable": "", "is_same": "thing", "copied": "",
    "do": "deed", "claim": "thing", "release": "thing", "undo": "", "redo": "",
}


class Interface(unittest.TestCase):

    def test_functions(self):
        for module, functions in FUNCTIONS.items():
            for name, parameters in functions.items():
                with self.subTest(module=module, name=name):
                    function = getattr(importlib.import_module(module), name)
                    self.assertTrue(inspect.isfunction(function))
                    self.assertEqual((function.__module__, function.__name__), (module, name))
                    self.check_parameters(function, parameters.split())

    def check_parameters(self, function, names):
        found = inspect.signature(function).parameters.values()
        self.assertEqual([one.name for one in found], names)
        for one in found:
            self.assertIs(one.kind, inspect.Parameter.POSITIONAL_OR_KEYWORD)
            self.assertIs(one.default, inspect.Parameter.empty)

    def test_desk(self):
        made = importlib.import_module("ringvoices.desks").Desk
        self.assertEqual((made.__module__, made.__name__, made.__bases__), ("ringvoices.desks", "Desk", (object,)))
        self.check_parameters(made, ["rings", "whole"])
        for name, parameters in DESK.items():
            with self.subTest(name=name):
                self.assertTrue(inspect.isfunction(vars(made)[name]))
                self.check_parameters(vars(made)[name], ["self", *parameters.split()])


if __name__ == "__main__":
    unittest.main()
