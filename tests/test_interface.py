import importlib
import inspect
import os
import unittest

# For each file its functions, with what they are handed: (by place or name, with these defaults by name alone).
FUNCTIONS = {
    "lots": {
        "is_lot": (["thing"], {}), "lot_of": (["points"], {}), "size": (["lot"], {}),
        "joined": (["one", "other"], {}), "common": (["one", "other"], {}), "without": (["one", "other"], {}),
        "is_within": (["one", "other"], {}), "picked": (["lot", "many"], {"skip": 0}),
        "points_in": (["lot"], {"most": 200}),
    },
    "slips": {
        "is_ballot": (["thing"], {}), "is_slip": (["thing"], {}), "above": (["slip", "floor"], {}),
        "is_later": (["one", "other"], {"floor": 0}), "later": (["one", "other"], {}),
    },
    "holdings": {
        "is_holding": (["thing"], {}), "lot_held": (["holding"], {}), "slip_at": (["holding", "point"], {}),
        "cut": (["holding", "lot"], {}), "put_in": (["one", "other"], {}), "at_floor": (["holding", "floor"], {}),
        "slips_of": (["holding"], {}),
    },
    "points": {"promising": (["holding", "ballot"], {}), "taking": (["holding", "ballot", "row", "word"], {})},
    "counts": {"gathered": (["one", "other"], {}), "is_most": (["lot", "points"], {}), "must": (["holding"], {})},
    "letters": {"is_letter": (["thing"], {})},
    "papers": {"paper": (["world", "row"], {}), "shows_chosen": (["world", "thing"], {})},
    "choosing": {
        "can_choose": (["world", "hands"], {}), "least_choosers": (["world"], {}), "blockers": (["world"], {}),
    },
    "spreading": {"spread": (["shares", "falls"], {}), "shows_spread": (["shares", "falls", "thing"], {})},
    "weaving": {
        "weavings": (["world", "plans"], {"most": 300}), "shows_weavings": (["world", "plans", "thing"], {"most": 300}),
    },
    "showing": {
        "show_lot": (["lot"], {}), "show_holding": (["holding"], {}), "show_letter": (["letter"], {}),
        "show_world": (["world"], {}),
    },
    "reading": {
        "read_lot": (["text"], {}), "read_holding": (["text"], {}), "read_letter": (["text"], {}),
        "read_world": (["text"], {}),
    },
}
# For each file its classes, and what their methods are handed.
CLASSES = {
    "hands": {
        "Hand": {
            "__init__": ["name", "hands", "points", "holding"], "__eq__": ["other"], "book": [], "mind": [],
            "held": [], "ask": ["number"], "offer": ["row", "word"], "give": ["to", "lot"], "again": [], "fall": [],
            "rise": [], "hear": ["letter"],
        },
    },
    "worlds": {
        "World": {
            "__init__": ["shares"], "__eq__": ["other"], "__len__": [], "hands": [], "points": [], "hand": ["name"],
            "road": [], "copy": [], "do": ["deed"], "spots": [], "greatest": [], "took": [], "chosen": [],
            "settle": ["hands"],
        },
    },
    "desk": {"Desk": {"__init__": ["text"], "say": ["line"]}},
}


class Interface(unittest.TestCase):
    def test_each_function_stands_in_its_file_with_its_names(self):
        for file, functions in FUNCTIONS.items():
            module = importlib.import_module("ridingvotes." + file)
            for name, (plain, by_name) in functions.items():
                with self.subTest(file=file, name=name):
                    function = getattr(module, name)
                    self.assertEqual(function.__module__, "ridingvotes." + file)
                    told = inspect.signature(function).parameters.values()
                    self.assertEqual([one.name for one in told if one.kind == one.POSITIONAL_OR_KEYWORD], plain)
                    self.assertEqual({one.name: one.default for one in told if one.kind == one.KEYWORD_ONLY}, by_name)
                    self.assertEqual(len(told), len(plain) + len(by_name))

    def test_each_class_stands_in_its_file_with_its_methods_in_itself(self):
        for file, classes in CLASSES.items():
            module = importlib.import_module("ridingvotes." + file)
            for name, methods in classes.items():
                found = getattr(module, name)
                self.assertEqual((found.__module__, found.__name__), ("ridingvotes." + file, name))
                for method, plain in methods.items():
                    with self.subTest(name=name, method=method):
                        self.assertIn(method, vars(found))
                        told = inspect.signature(vars(found)[method]).parameters.values()
                        self.assertEqual({one.kind for one in told}, {inspect.Parameter.POSITIONAL_OR_KEYWORD})
                        self.assertEqual([one.name for one in told][1:], plain)

    def test_the_package_has_nothing_but_its_files(self):
        folder = os.path.dirname(importlib.import_module("ridingvotes").__file__)
        found = [name for name in os.listdir(folder) if name != "__pycache__"]
        self.assertEqual([name for name in found if not name.endswith(".py")], [])
        self.assertIn("__init__.py", found)


if __name__ == "__main__":
    unittest.main()
