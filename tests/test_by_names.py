"""Promise [4]: arguments by the names in the interface, in any order, give what they give by place."""

import importlib
import itertools
import unittest

from secondruns.asking import Finding
from secondruns.books import Book, Row
from secondruns.comparing import Parting
from secondruns.desks import Desk
from secondruns.languages import Language
from secondruns.rules import Rule
from secondruns.types import types
from tests.test_interface import FUNCTIONS, METHODS

ROWS = [("one", 0), ("neg", 1), ("add", 2)]
L = Language(ROWS)
N = Book.read(L, "above\nneg(neg(?x)) -> ?x")
B = Book.read(L, "above\nneg(one) -> one")
G = Book.read(L, "below\nneg(?x) -> neg(neg(?x))")
R = N.rules[0]
TREE = ("add", ("neg", ("neg", ("one",))), ("one",))
BARS = [(0, "x", "one"), (0, "x", "keep"), (0, "x", "neg")]

ARGUMENTS = {
    "size": [TREE],
    "places": [TREE],
    "piece": [TREE, (0, 0)],
    "placed": [TREE, (0, 0), ("one",)],
    "tree_text": [TREE],
    "read_tree": ["add(one, neg(one))"],
    "shape_text": [("add", "x", ("one",))],
    "read_shape": ["add(?x, one)"],
    "fit": [R, ("neg", ("neg", ("one",)))],
    "settled": [N, TREE, 4],
    "type_of": [N * B, TREE],
    "types": [N * B],
    "is_table": [N * B, types(N * B)],
    "acts": [N * B, 1, 0],
    "second": [B, 2],
    "enough": [N],
    "losing": [Book.read(L, "above\nadd(?x, ?y) -> ?y")],
    "doubling": [Book.read(L, "above\nadd(?x, ?y) -> add(?y, ?y)")],
    "parting": [N, B],
    "alike": [N, G],
    "order_parting": [N, B],
    "any_order": [N, B],
    "undoes": [Book.read(L, "above\nneg(neg(?x)) -> neg(?x)"), G],
    "same_again": [N],
    "barred": [G, BARS],
    "least_bars": [G, BARS],
    "greatest_lots": [[N, B, N]],
    "meets": [("neg", ("neg", "x")), ("neg", "y")],
    "overlaps": [N, B],
    "written": [G, B],
}

OBJECTS = {
    "Language": (L, [ROWS]),
    "Rule": (R, [("add", "x", "y"), ("neg", "x"), {"x": ["one"]}, {"y": ["add", "neg"]}]),
    "Book": (N, [L, [R], True]),
    "Row": (N * B, [[N, B]]),
    "Desk": (Desk(N, TREE), [N, TREE]),
}

METHOD_ARGUMENTS = {
    ("Language", "children"): ["add"],
    ("Language", "is_tree"): [TREE],
    ("Language", "is_less"): [("one",), TREE],
    ("Language", "trees"): [3],
    ("Language", "text"): [],
    ("Rule", "holes"): [],
    ("Rule", "kind"): ["x"],
    ("Rule", "bar"): ["x"],
    ("Book", "__call__"): [TREE],
    ("Book", "done"): [TREE],
    ("Book", "origins"): [TREE],
    ("Book", "text"): [],
    ("Row", "__call__"): [TREE],
    ("Row", "steps"): [TREE],
}


def plain(thing):
    """What an object holds, where two objects of its class are equal only if they are one."""
    if isinstance(thing, (Finding, Parting)):
        return vars(thing)
    if isinstance(thing, Desk):
        return (thing.book, thing.tree)
    if hasattr(thing, "__next__"):
        return list(thing)
    return thing


class ByNames(unittest.TestCase):
    def check(self, function, names, values):
        self.assertEqual(len(names), len(values))
        expected = plain(function(*values))
        for order in itertools.permutations(list(zip(names, values))):
            self.assertEqual(plain(function(**dict(order))), expected, names)
        for many in range(len(names)):
            self.assertEqual(plain(function(*values[:many], **dict(list(zip(names, values))[many:]))), expected)

    def test_functions(self):
        for file, functions in FUNCTIONS.items():
            module = importlib.import_module(f"secondruns.{file}")
            for name, names in functions.items():
                self.check(getattr(module, name), names, ARGUMENTS[name])

    def test_classes(self):
        for (_, name), methods in METHODS.items():
            if "__init__" in methods:
                made, values = OBJECTS[name]
                self.check(made.__class__, methods["__init__"][1:], values)

    def test_methods(self):
        checked = set()
        for (_, name), methods in METHODS.items():
            for method, names in methods.items():
                if (name, method) in METHOD_ARGUMENTS:
                    checked.add((name, method))
                    function = getattr(OBJECTS[name][0], method)
                    self.check(function, names[1:], METHOD_ARGUMENTS[(name, method)])
                else:
                    self.assertTrue(name == "Desk" or method.startswith("__"), method)
        self.assertEqual(checked, set(METHOD_ARGUMENTS))

    def test_methods_of_desks(self):
        desk = Desk(tree=TREE, book=N)
        desk.mark(name="here")
        self.assertEqual(desk.run(), 1)
        self.assertEqual(desk.tree, ("add", ("one",), ("one",)))
        desk.back(name="here")
        self.assertEqual(desk.tree, TREE)

    def test_class_methods(self):
        self.check(Language.read, ["text"], [L.text()])
        self.check(Book.read, ["language", "text"], [L, N.text()])

    def test_what_may_be_left_out(self):
        self.assertEqual(Rule(right="x", left=("neg", "x")), Rule(("neg", "x"), "x", None, None))
        self.assertEqual(Rule(bars={"x": ["one"]}, right="x", left=("neg", "x")).bar(hole="x"), ("one",))
        self.assertEqual(Book(rules=[R], language=L), N)
        self.assertEqual(Row(books=[N]), N ** 1)


if __name__ == "__main__":
    unittest.main()
