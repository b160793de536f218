"""Promise [49]: the names, the parameters' names, and where each thing is defined."""

import importlib
import inspect
import unittest

FUNCTIONS = {
    "trees": {
        "size": ["tree"],
        "places": ["tree"],
        "piece": ["tree", "place"],
        "placed": ["tree", "place", "other"],
        "tree_text": ["tree"],
        "read_tree": ["text"],
    },
}

METHODS = {
    ("languages", "Language"): {
        "__init__": ["self", "rows"],
        "children": ["self", "label"],
        "is_tree": ["self", "thing"],
        "is_less": ["self", "one", "other"],
        "trees": ["self", "nodes"],
        "text": ["self"],
        "__len__": ["self"],
        "__eq__": ["self", "other"],
    },
}


class Interface(unittest.TestCase):
    def test_functions(self):
        for file, functions in FUNCTIONS.items():
            module = importlib.import_module(f"secondruns.{file}")
            for name, parameters in functions.items():
                made = getattr(module, name)
                self.assertTrue(inspect.isfunction(made))
                self.assertEqual(list(inspect.signature(made).parameters), parameters)
                self.assertEqual(made.__module__, f"secondruns.{file}")

    def test_classes(self):
        for (file, name), methods in METHODS.items():
            module = importlib.import_module(f"secondruns.{file}")
            made = getattr(module, name)
            self.assertEqual(made.__module__, f"secondruns.{file}")
            for method, parameters in methods.items():
                found = vars(made)[method]
                self.assertTrue(inspect.isfunction(found), method)
                self.assertEqual(list(inspect.signature(found).parameters), parameters)

    def test_class_method(self):
        language = importlib.import_module("secondruns.languages").Language
        self.assertIsInstance(vars(language)["read"], classmethod)
        self.assertEqual(list(inspect.signature(language.read).parameters), ["text"])

    def test_trees_is_a_generator(self):
        language = importlib.import_module("secondruns.languages").Language
        self.assertTrue(inspect.isgeneratorfunction(language.trees))

    def test_labels_are_set_when_a_language_is_made(self):
        language = importlib.import_module("secondruns.languages").Language
        self.assertIn("labels", vars(language([("one", 0)])))


if __name__ == "__main__":
    unittest.main()
