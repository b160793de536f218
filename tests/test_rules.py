"""Promises [4], [14], [15] and [16]: rules, and whether they fit."""

import copy
import unittest

from secondruns.errors import BadRule, UnknownHole
from secondruns.languages import Language
from secondruns.rules import Rule, fit
from tests.drawn import Drawing
from tests.samples import as_lists, as_mixed, chain, nested_dict, nested_list, nested_tuple, objects, only_tuples
from tests.slow import slow_fit

LEFT = ("add", "x", ("neg", "y"))


class Wrong(unittest.TestCase):
    def bad(self, word, *passed):
        names = ("left", "right", "kinds", "bars")
        for call in (lambda: Rule(*passed), lambda: Rule(**dict(zip(names, passed)))):
            with self.assertRaises(BadRule) as caught:
                call()
            self.assertEqual(caught.exception.word, word, passed)

    def test_left(self):
        good = [("one",), ("neg", ("one",))]
        for thing in objects():
            if not (isinstance(thing, (tuple, list)) and tuple(thing) in good + [("neg", ["one"])]):
                if thing in (["neg", ["one"]], ["one"]):
                    continue
                self.bad("left", thing, ("one",))
        for left in ("x", "one", ("keep", "x"), ["keep", ["one"]], ("neg", ("keep", "x")), ("add", "x", "x"),
                     ("add", "x", ("neg", "x")), ("f", ("g", "x"), ("h", ("i", "x"))), (), ("",), ("Neg", "x"),
                     ("neg", "X"), ("neg", "x1"), ("neg", ""), ("neg", None), ("neg", 0), ("neg", ()), ("neg", {}),
                     (("neg",), "x"), (("neg", "x"),), ("abcdefghi", "x"), ("neg", "abcdefghi"), (0, "x"),
                     (None,), ("neg", ["x", []]), {"neg": "x"}, ("?neg", "x"), ("neg", "?x"), nested_list("x"),
                     nested_tuple(("one",)), nested_dict("x"), ["neg", nested_list("x", 298)], "neg(?x)", b"neg"):
            self.bad("left", left, ("one",))
            self.bad("left", left, 0, 0, 0)

    def test_right(self):
        for thing in objects():
            if thing in (["one"], ("one",), ("neg", ("one",)), ["neg", ["one"]]):
                continue
            self.bad("right", LEFT, thing)
            self.bad("right", LEFT, thing, 7, 7)
        for right in ("z", "add", ("neg", "z"), ("add", "x", "z"), ("add", ("neg", ("neg", "xy")), "x"), (), ("X",),
                      ("neg", 0), ("neg", ["x", ()]), [["neg"], "x"], ("keep", "one"), nested_list("x"), None):
            self.bad("right", LEFT, right)
        self.bad("right", ("one",), "x")
        self.bad("right", ("one",), "one")

    def test_kinds_and_bars(self):
        wrong = [thing for thing in objects() if thing != {} and thing is not None]
        wrong += [{"z": []}, {"x": ["one"], "z": ["one"]}, {"x": "one"}, {"x": None}, {"x": 0}, {"x": [0]},
                  {"x": ["One"]}, {"x": [""]}, {"x": ["abcdefghi"]}, {"x": [["one"]]}, {"x": ["one", None]},
                  {"x": {"one": 1}}, {"x": ("one", "two", "?x")}, {0: ["one"]}, {("x",): ["one"]}, {None: []},
                  {True: ["one"]}, {"?x": ["one"]}, {"neg": []}, [("x", ["one"])], (("x", ("one",)),), [], (), False,
                  0, "", {"x": ["one"], "y": True}, {"x": nested_list("one")}, nested_dict("x")]
        for thing in wrong:
            self.bad("kinds", LEFT, "x", thing)
            self.bad("kinds", LEFT, "x", thing, 0)
            self.bad("bars", LEFT, "x", None, thing)
            self.bad("bars", LEFT, "x", {}, thing)
            self.bad("bars", LEFT, "x", {"x": ["one"]}, thing)
        self.bad("kinds", ("one",), ("one",), {"x": []})
        self.bad("bars", ("one",), ("one",), {}, {"x": []})

    def test_the_first_word_is_told(self):
        self.bad("left", 0, 0, 0, 0)
        self.bad("right", LEFT, 0, 0, 0)
        self.bad("kinds", LEFT, "x", 0, 0)
        self.bad("bars", LEFT, "x", None, 0)
        self.bad("right", ("neg", "x"), "y", {"y": []}, {"y": []})


class Told(unittest.TestCase):
    def test_shapes_are_tuples_throughout(self):
        rule = Rule(["add", "x", ["neg", "y"]], ["keep", ["add", "y", ["one"]]])
        self.assertEqual(rule.left, ("add", "x", ("neg", "y")))
        self.assertEqual(rule.right, ("keep", ("add", "y", ("one",))))
        self.assertIs(type(rule.left[2]), tuple)
        self.assertIs(type(rule.right[1][2]), tuple)
        self.assertEqual(Rule(LEFT, "y").right, "y")
        self.assertEqual({"left", "right"} - set(vars(rule)), set())

    def test_holes(self):
        self.assertEqual(Rule(LEFT, "y").holes(), ["x", "y"])
        self.assertEqual(Rule(("f", ("g", "z"), "a", ("h", "c", ("i", "b"))), "a").holes(), ["z", "a", "c", "b"])
        self.assertEqual(Rule(("one",), ("one",)).holes(), [])
        self.assertEqual(Rule(("neg", "neg"), "neg").holes(), ["neg"])
        self.assertEqual(Rule(("neg", "keep"), ("keep", "keep")).holes(), ["keep"])
        rule = Rule(LEFT, "y")
        rule.holes().append("z")
        self.assertEqual(rule.holes(), ["x", "y"])
        self.assertIs(type(rule.holes()), list)

    def test_kind_and_bar(self):
        rule = Rule(LEFT, "x", {"x": ["two", "one", "two", "keep"]}, {"y": ("neg", "add", "neg")})
        self.assertEqual(rule.kind("x"), ("keep", "one", "two"))
        self.assertIsNone(rule.kind("y"))
        self.assertEqual(rule.bar("x"), ())
        self.assertEqual(rule.bar("y"), ("add", "neg"))
        self.assertEqual(rule.kind(hole="x"), rule.kind("x"))
        self.assertEqual(rule.bar(hole="y"), rule.bar("y"))
        empty = Rule(LEFT, "x", {"x": [], "y": ()}, {"x": [], "y": ()})
        self.assertEqual(empty.kind("x"), ())
        self.assertEqual(empty.kind("y"), ())
        self.assertEqual(empty.bar("x"), ())
        for told in (rule.kind("x"), rule.bar("x"), rule.bar("y"), empty.kind("x")):
            self.assertIs(type(told), tuple)

    def test_none_stands_for_an_empty_dict(self):
        for kinds in (None, {}):
            for bars in (None, {}):
                for rule in (Rule(LEFT, "x", kinds, bars), Rule(left=LEFT, right="x", bars=bars, kinds=kinds)):
                    self.assertIsNone(rule.kind("x"))
                    self.assertEqual(rule.bar("y"), ())
                    self.assertEqual(rule, Rule(LEFT, "x"))

    def test_unknown_hole(self):
        rule = Rule(LEFT, "x", {"x": ["one"]}, {"y": ["one"]})
        for thing in objects() + ["z", "add", "neg", "?x", "xy", ["x"], ("x",), {"x": 1}]:
            for call in (lambda: rule.kind(thing), lambda: rule.bar(thing), lambda: rule.bar(hole=thing)):
                with self.assertRaises(UnknownHole) as caught:
                    call()
                self.assertIs(caught.exception.hole, thing)
        with self.assertRaises(UnknownHole):
            Rule(("one",), ("one",)).kind("one")

    def test_equality(self):
        alike = [Rule(LEFT, "x"), Rule(["add", "x", ["neg", "y"]], "x", {}, None), Rule(LEFT, "x", None, {"x": []}),
                 Rule(LEFT, "x", {}, {"y": (), "x": []})]
        for one in alike:
            for other in alike:
                self.assertIs(one == other, True)
                self.assertIs(one != other, False)
        kind = [Rule(LEFT, "x", {"x": ["two", "one"]}, {"y": ["one", "neg"]}),
                Rule(LEFT, "x", {"x": ("one", "two", "one")}, {"y": ("neg", "one", "neg"), "x": ()})]
        self.assertTrue(kind[0] == kind[1])
        unlike = [alike[0], kind[0], Rule(LEFT, "y"), Rule(LEFT, ("x",)), Rule(("add", "y", ("neg", "x")), "x"),
                  Rule(("sub", "x", ("neg", "y")), "x"), Rule(LEFT, "x", {"x": []}), Rule(LEFT, "x", {"y": []}),
                  Rule(LEFT, "x", {"x": ["one"]}), Rule(LEFT, "x", {"y": ["one"]}), Rule(LEFT, "x", {"x": ["two"]}),
                  Rule(LEFT, "x", {}, {"x": ["one"]}), Rule(LEFT, "x", {}, {"y": ["one"]}),
                  Rule(LEFT, "x", {"x": ["one"]}, {"x": ["one"]})]
        for n, one in enumerate(unlike):
            for k, other in enumerate(unlike):
                self.assertIs(one == other, n == k)
                self.assertIs(one != other, n != k)
            for thing in objects() + [LEFT, (LEFT, "x"), Language([("one", 0)])]:
                self.assertIs(one == thing, False)
                self.assertIs(one != thing, True)

    def test_what_is_passed_stays_and_later_changes_have_no_effect(self):
        left, right = ["add", "x", ["neg", "y"]], ["keep", ["neg", "x"]]
        kinds, bars = {"x": ["two", "one"]}, {"y": ["two", "one"]}
        kept = copy.deepcopy([left, right, kinds, bars])
        rule = Rule(left, right, kinds, bars)
        self.assertEqual([left, right, kinds, bars], kept)
        left[2][1] = "z"
        right[1][1] = "y"
        kinds["x"].append("three")
        bars["y"].append("three")
        kinds["y"] = ["one"]
        bars.clear()
        self.assertEqual(rule, Rule(kept[0], kept[1], kept[2], kept[3]))
        self.assertEqual((rule.kind("x"), rule.kind("y"), rule.bar("y")), (("one", "two"), None, ("one", "two")))


class Fits(unittest.TestCase):
    def test_contents(self):
        rule = Rule(("f", ("g", "z"), "a", ("h", "c")), "a")
        tree = ("f", ("g", ("u", ("v",))), ("w",), ("h", ("f", ("a",), ("b",))))
        for passed in (tree, as_lists(tree), as_mixed(tree)):
            found = fit(rule, passed)
            self.assertEqual(found, {"z": ("u", ("v",)), "a": ("w",), "c": ("f", ("a",), ("b",))})
            self.assertEqual(list(found), ["z", "a", "c"])
            self.assertTrue(all(only_tuples(content) for content in found.values()))
        self.assertEqual(fit(rule=rule, tree=tree), fit(rule, tree))
        self.assertEqual(fit(Rule(("one",), ("one",)), ["one"]), {})

    def test_no_fit(self):
        rule = Rule(LEFT, "x")
        for tree in (("add",), ("add", ("one",)), ("add", ("one",), ("one",)), ("neg", ("one",)),
                     ("add", ("one",), ("neg",)), ("add", ("one",), ("neg", ("one",), ("one",))),
                     ("add", ("one",), ("neg", ("one",)), ("one",)), ("keep", ("add", ("one",), ("neg", ("one",)))),
                     ("add", ("neg", ("one",)), ("keep", ("neg", ("one",)))), ("sub", ("one",), ("neg", ("one",)))):
            self.assertIsNone(fit(rule, tree))
        self.assertIsNone(fit(Rule(("one",), ("one",)), ("two",)))

    def test_kinds(self):
        rule = Rule(("neg", "x"), "x", {"x": ["one", "keep"]})
        self.assertEqual(fit(rule, ("neg", ("one",))), {"x": ("one",)})
        self.assertEqual(fit(rule, ("neg", ("keep", ("two",)))), {"x": ("keep", ("two",))})
        self.assertIsNone(fit(rule, ("neg", ("two",))))
        self.assertIsNone(fit(rule, ("neg", ("neg", ("one",)))))
        for tree in (("neg", ("one",)), ("neg", ("keep", ("one",)))):
            self.assertIsNone(fit(Rule(("neg", "x"), "x", {"x": []}), tree))

    def test_bars(self):
        rule = Rule(("neg", "x"), "x", None, {"x": ["one"]})
        self.assertIsNone(fit(rule, ("neg", ("one",))))
        self.assertIsNone(fit(rule, ("neg", ("neg", ("neg", ("one",))))))
        self.assertIsNone(fit(rule, ("neg", ("add", ("two",), ("one",)))))
        self.assertIsNotNone(fit(rule, ("neg", ("neg", ("two",)))))
        self.assertIsNotNone(fit(rule, ("neg", ("keep", ("one",)))))
        self.assertIsNotNone(fit(rule, ("neg", ("add", ("two",), ("keep", ("one",))))))
        self.assertIsNone(fit(rule, ("neg", ("add", ("keep", ("one",)), ("one",)))))
        # What stands above the content does not count, nor what stands in the content of another hole.
        two = Rule(("add", "x", "y"), "x", None, {"x": ["add"], "y": ["one"]})
        self.assertIsNotNone(fit(two, ("add", ("one",), ("add", ("two",), ("two",)))))
        self.assertIsNone(fit(two, ("add", ("add", ("two",), ("two",)), ("two",))))

    def test_keep_may_be_barred(self):
        rule = Rule(("neg", "x"), "x", None, {"x": ["keep"]})
        self.assertIsNotNone(fit(rule, ("neg", ("one",))))
        self.assertIsNone(fit(rule, ("neg", ("keep", ("one",)))))
        self.assertIsNone(fit(rule, ("neg", ("add", ("one",), ("keep", ("one",))))))

    def test_drawn_rules(self):
        for number in range(60):
            drawing = Drawing(number)
            for rule in drawing.book(6).rules:
                for tree in drawing.trees(60):
                    wanted = slow_fit(rule, tree)
                    found = fit(rule, as_mixed(tree, number))
                    self.assertEqual(found, wanted)
                    if found is not None:
                        self.assertEqual(list(found), rule.holes())

    def test_deep_trees(self):
        rule = Rule(("neg", ("neg", "x")), "x", {}, {"x": ["two"]})
        self.assertEqual(fit(rule, chain("neg", 299, ("one",))), {"x": chain("neg", 297, ("one",))})
        self.assertIsNone(fit(rule, as_lists(chain("neg", 299, ("two",)))))

    def test_what_is_passed_stays(self):
        tree = ["neg", ["neg", ["one"]]]
        found = fit(Rule(("neg", "x"), "x"), tree)
        found["x"] = 0
        self.assertEqual(tree, ["neg", ["neg", ["one"]]])
        found = fit(Rule(("neg", "x"), "x"), tree)
        tree[1][1] = ["two"]
        self.assertEqual(found, {"x": ("neg", ("one",))})


if __name__ == "__main__":
    unittest.main()
