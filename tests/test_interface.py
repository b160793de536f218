"""Promise [49]: the names, the parameters' names, and where each thing is defined."""

import importlib
import inspect
import unittest

FUNCTIONS = {
    "trees": {
        "size": ["tree"],
        "places": ["tree"],
        "piece": ["tree", "place"],
        "placed": ["tree", "place", "other"],
        "tree_text": ["tree"],
        "read_tree": ["text"],
    },
    "rules": {
        "shape_text": ["shape"],
        "read_shape": ["text"],
        "fit": ["rule", "tree"],
    },
    "books": {
        "settled": ["book", "tree", "most"],
    },
    "types": {
        "type_of": ["runs", "tree"],
        "types": ["runs"],
        "is_table": ["runs", "thing"],
    },
    "asking": {
        "acts": ["runs", "at", "index"],
        "second": ["book", "passes"],
        "enough": ["book"],
        "losing": ["book"],
        "doubling": ["book"],
    },
    "comparing": {
        "parting": ["one", "other"],
        "alike": ["one", "other"],
        "order_parting": ["one", "other"],
        "any_order": ["one", "other"],
        "undoes": ["one", "other"],
        "same_again": ["book"],
    },
    "choosing": {
        "barred": ["book", "bars"],
        "least_bars": ["book", "bars"],
        "greatest_lots": ["books"],
    },
    "overlaps": {
        "meets": ["shape", "other"],
        "overlaps": ["one", "other"],
        "written": ["one", "other"],
    },
}

DEFAULTS = {
    ("rules", "Rule"): {"kinds": None, "bars": None},
    ("books", "Book"): {"below": False},
    ("asking", "second"): {"passes": 1},
}

METHODS = {
    ("languages", "Language"): {
        "__init__": ["self", "rows"],
        "children": ["self", "label"],
        "is_tree": ["self", "thing"],
        "is_less": ["self", "one", "other"],
        "trees": ["self", "nodes"],
        "text": ["self"],
        "__len__": ["self"],
        "__eq__": ["self", "other"],
    },
    ("rules", "Rule"): {
        "__init__": ["self", "left", "right", "kinds", "bars"],
        "holes": ["self"],
        "kind": ["self", "hole"],
        "bar": ["self", "hole"],
        "__eq__": ["self", "other"],
    },
    ("books", "Book"): {
        "__init__": ["self", "language", "rules", "below"],
        "__call__": ["self", "tree"],
        "done": ["self", "tree"],
        "origins": ["self", "tree"],
        "text": ["self"],
        "__add__": ["self", "other"],
        "__mul__": ["self", "other"],
        "__pow__": None,
        "__len__": ["self"],
        "__eq__": ["self", "other"],
    },
    ("books", "Row"): {
        "__init__": ["self", "books"],
        "__call__": ["self", "tree"],
        "steps": ["self", "tree"],
        "__mul__": ["self", "other"],
        "__len__": ["self"],
        "__getitem__": None,
        "__eq__": ["self", "other"],
    },
    ("asking", "Finding"): {},
    ("comparing", "Parting"): {},
    ("desks", "Desk"): {
        "__init__": ["self", "book", "tree"],
        "fits": ["self"],
        "run": ["self"],
        "mark": ["self", "name"],
        "back": ["self", "name"],
        "undo": ["self"],
        "redo": ["self"],
        "__iadd__": None,
        "__getitem__": None,
        "__setitem__": None,
    },
}


class Interface(unittest.TestCase):
    def test_functions(self):
        for file, functions in FUNCTIONS.items():
            module = importlib.import_module(f"secondruns.{file}")
            for name, parameters in functions.items():
                made = getattr(module, name)
                self.assertTrue(inspect.isfunction(made))
                self.assertEqual(list(inspect.signature(made).parameters), parameters)
                self.assertEqual(made.__module__, f"secondruns.{file}")

    def test_classes(self):
        for (file, name), methods in METHODS.items():
            module = importlib.import_module(f"secondruns.{file}")
            made = getattr(module, name)
            self.assertEqual(made.__module__, f"secondruns.{file}")
            for method, parameters in methods.items():
                found = vars(made)[method]
                self.assertTrue(inspect.isfunction(found), method)
                if parameters is not None:
                    self.assertEqual(list(inspect.signature(found).parameters), parameters)

    def test_defaults(self):
        for file, names in list(FUNCTIONS.items()) + [(file, [name]) for file, name in METHODS]:
            for name in names:
                made = getattr(importlib.import_module(f"secondruns.{file}"), name)
                if name not in ("Finding", "Parting"):
                    found = {parameter.name: parameter.default
                             for parameter in inspect.signature(made).parameters.values()
                             if parameter.default is not inspect.Parameter.empty}
                    self.assertEqual(found, DEFAULTS.get((file, name), {}), name)

    def test_class_methods(self):
        language = importlib.import_module("secondruns.languages").Language
        self.assertIsInstance(vars(language)["read"], classmethod)
        self.assertEqual(list(inspect.signature(language.read).parameters), ["text"])
        book = importlib.import_module("secondruns.books").Book
        self.assertIsInstance(vars(book)["read"], classmethod)
        self.assertEqual(list(inspect.signature(book.read).parameters), ["language", "text"])

    def test_generators(self):
        language = importlib.import_module("secondruns.languages").Language
        self.assertTrue(inspect.isgeneratorfunction(language.trees))
        row = importlib.import_module("secondruns.books").Row
        self.assertTrue(inspect.isgeneratorfunction(row.steps))

    def test_labels_are_set_when_a_language_is_made(self):
        language = importlib.import_module("secondruns.languages").Language
        self.assertIn("labels", vars(language([("one", 0)])))


if __name__ == "__main__":
    unittest.main()
