import importlib
import inspect
import unittest

# For each file its functions, with what they are handed: (by place or name, with these defaults by name alone).
FUNCTIONS = {
    "lots": {
        "is_lot": (["thing"], {}), "lot_of": (["points"], {}), "size": (["lot"], {}),
        "joined": (["one", "other"], {}), "common": (["one", "other"], {}), "without": (["one", "other"], {}),
        "is_within": (["one", "other"], {}), "picked": (["lot", "many"], {"skip": 0}),
        "points_in": (["lot"], {"most": 200}),
    },
    "slips": {
        "is_ballot": (["thing"], {}), "is_slip": (["thing"], {}), "above": (["slip", "floor"], {}),
        "is_later": (["one", "other"], {"floor": 0}), "later": (["one", "other"], {}),
    },
    "holdings": {
        "is_holding": (["thing"], {}), "lot_held": (["holding"], {}), "slip_at": (["holding", "point"], {}),
        "cut": (["holding", "lot"], {}), "put_in": (["one", "other"], {}), "at_floor": (["holding", "floor"], {}),
        "slips_of": (["holding"], {}),
    },
}


class Interface(unittest.TestCase):
    def test_each_function_stands_in_its_file_with_its_names(self):
        for file, functions in FUNCTIONS.items():
            module = importlib.import_module("ridingvotes." + file)
            for name, (plain, by_name) in functions.items():
                with self.subTest(file=file, name=name):
                    function = getattr(module, name)
                    self.assertEqual(function.__module__, "ridingvotes." + file)
                    told = inspect.signature(function).parameters.values()
                    self.assertEqual([one.name for one in told if one.kind == one.POSITIONAL_OR_KEYWORD], plain)
                    self.assertEqual({one.name: one.default for one in told if one.kind == one.KEYWORD_ONLY}, by_name)
                    self.assertEqual(len(told), len(plain) + len(by_name))


if __name__ == "__main__":
    unittest.main()
