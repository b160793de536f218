"""Promises [4], [18], [19], [20] and [29]: passes, what they do and where what comes of them comes from."""

import copy
import time
import unittest

from secondruns.books import Book
from secondruns.errors import BadTree
from secondruns.languages import Language
from secondruns.rules import Rule, read_shape
from secondruns.trees import piece, places, read_tree, size, tree_text
from tests.drawn import Drawing
from tests.samples import as_lists, as_mixed, chain, objects, only_tuples
from tests.slow import beneath_keep, label_spots, slow_done, slow_pass

L = Language([("one", 0), ("neg", 1), ("add", 2)])


def book(lines, below=False, language=L):
    """A book without kinds and bars."""
    return Book(language, [Rule(*map(read_shape, line.split(" -> "))) for line in lines], below)


class Words(unittest.TestCase):
    def check(self, made, text, done, result):
        tree = read_tree(text)
        for passed in (tree, as_lists(tree), as_mixed(tree)):
            self.assertEqual(made.done(passed), done)
            self.assertEqual(tree_text(made(passed)), result)

    def test_fits_one_over_another(self):
        above, below = book(["neg(neg(?x)) -> ?x"]), book(["neg(neg(?x)) -> ?x"], True)
        self.check(above, "neg(neg(neg(one)))", [((), 0)], "neg(one)")
        self.check(below, "neg(neg(neg(one)))", [((0,), 0)], "neg(one)")
        for made in (above, below):
            self.check(made, "neg(neg(neg(neg(one))))", [((), 0), ((0, 0), 0)], "one")
            self.check(made, "neg(one)", [], "neg(one)")
            self.check(made, "add(neg(neg(one)), neg(neg(neg(neg(one)))))", [
                ((0,), 0), ((1,), 0), ((1, 0, 0), 0)], "add(one, one)")

    def test_the_way_matters(self):
        lines = ["neg(neg(?x)) -> keep(?x)", "neg(one) -> one"]
        self.check(book(lines), "neg(neg(one))", [((), 0)], "keep(one)")
        self.check(book(lines, True), "neg(neg(one))", [((0,), 1)], "neg(one)")

    def test_the_first_rule_that_can_be_done(self):
        self.check(book(["neg(?x) -> ?x", "neg(?x) -> neg(?x)"]), "neg(one)", [((), 0)], "one")
        self.check(book(["neg(?x) -> neg(?x)", "neg(?x) -> ?x"]), "neg(one)", [((), 0)], "neg(one)")
        lines = ["add(neg(?x), ?y) -> ?y", "add(?x, ?y) -> ?x", "neg(one) -> one"]
        self.check(book(lines), "add(neg(one), one)", [((), 0)], "one")
        self.check(book(lines, True), "add(neg(one), one)", [((), 1), ((0,), 2)], "one")

    def test_what_is_written_is_not_looked_at(self):
        for below in (False, True):
            self.check(book(["one -> neg(one)"], below), "one", [((), 0)], "neg(one)")
            self.check(book(["neg(one) -> one"], below), "neg(neg(one))", [((0,), 0)], "neg(one)")

    def test_contents_are_changed_too(self):
        lines = ["add(?x, ?y) -> add(?y, ?y)", "one -> neg(one)"]
        for below in (False, True):
            self.check(book(lines, below), "add(one, add(one, one))", [
                ((), 0), ((0,), 1), ((1,), 0), ((1, 0), 1), ((1, 1), 1)],
                "add(add(neg(one), neg(one)), add(neg(one), neg(one)))")

    def test_keep(self):
        for below in (False, True):
            made = book(["one -> neg(one)"], below)
            self.check(made, "add(keep(add(one, one)), one)", [((1,), 0)], "add(keep(add(one, one)), neg(one))")
            self.check(made, "keep(one)", [], "keep(one)")
            self.check(made, "neg(keep(keep(one)))", [], "neg(keep(keep(one)))")
            lifted = book(["neg(?x) -> keep(?x)", "one -> neg(one)"], below)
            self.check(lifted, "neg(one)", [((), 0), ((0,), 1)], "keep(neg(one))")
            self.check(lifted, "neg(keep(one))", [((), 0)], "keep(keep(one))")

    def test_kinds_and_bars(self):
        rules = [Rule(("neg", "x"), "x", {"x": ["neg"]}, {"x": ["add"]})]
        for below in (False, True):
            made = Book(L, rules, below)
            self.check(made, "neg(neg(neg(one)))", [((), 0), ((0,), 0)], "neg(one)")
            self.check(made, "neg(neg(neg(add(one, one))))", [], "neg(neg(neg(add(one, one))))")
            self.check(made, "neg(neg(keep(add(one, one))))", [((), 0)], "neg(keep(add(one, one)))")

    def test_origins(self):
        made = book(["add(?x, neg(?y)) -> neg(add(?y, ?y))", "one -> one"])
        found = made.origins(("neg", ("add", ("one",), ("neg", ("keep", ("one",))))))
        self.assertEqual(list(found.items()), [
            ((), ("old", ())), ((0,), ("new", (0,), 0)), ((0, 0), ("new", (0,), 0)),
            ((0, 0, 0), ("old", (0, 1, 0))), ((0, 0, 0, 0), ("old", (0, 1, 0, 0))),
            ((0, 0, 1), ("old", (0, 1, 0))), ((0, 0, 1, 0), ("old", (0, 1, 0, 0)))])
        self.assertEqual(made.origins(["one"]), {(): ("new", (), 1)})
        lifting = book(["neg(?x) -> ?x"])
        self.assertEqual(lifting.origins(chain("neg", 3, ("add", ("one",), ("neg", ("one",))))), {
            (): ("old", (0, 0, 0)), (0,): ("old", (0, 0, 0, 0)), (1,): ("old", (0, 0, 0, 1, 0))})

    def test_books_without_rules(self):
        for below in (False, True):
            made = Book(L, [], below)
            self.check(made, "add(one, neg(one))", [], "add(one, neg(one))")
            self.assertEqual(made.origins(("neg", ("one",))), {(): ("old", ()), (0,): ("old", (0,))})


class Drawn(unittest.TestCase):
    def test_drawn_books(self):
        for number in range(150):
            drawing = Drawing(number)
            made = drawing.book(6)
            for n, tree in enumerate(drawing.trees(90)):
                passed = as_mixed(tree, n)
                done = slow_done(made, tree)
                result, origins = slow_pass(made, tree)
                self.assertEqual(made.done(passed), done)
                self.assertEqual(made(passed), result)
                self.assertTrue(only_tuples(made(passed)))
                found = made.origins(passed)
                self.assertEqual(found, origins)
                self.assertEqual(list(found), places(result))

    def test_what_comes_of_a_piece(self):
        """[29]: beneath no keep, and in no place of a fit done above, a piece is changed as if it were alone."""
        for number in range(60):
            drawing = Drawing(number)
            made = drawing.book(6)
            for tree in drawing.trees(60):
                done = made.done(tree)
                covered = {place + spot for place, index in done for spot in label_spots(made.rules[index].left)}
                tops = {place for place, _ in done}
                for place in places(tree):
                    if not beneath_keep(tree, place) and (place in tops or place not in covered):
                        inner = [(p[len(place):], index) for p, index in done if p[:len(place)] == place]
                        self.assertEqual(made.done(piece(tree, place)), inner)


class Kinds(unittest.TestCase):
    def test_bad_tree(self):
        for below in (False, True):
            made = book(["neg(?x) -> ?x"], below)
            for thing in objects() + [("two",), ("neg",), ("one", ("one",)), ("add", ("one",)), ["keep"], "one",
                                      ("neg", ("neg", ("neg", ("two",)))), ("keep", ("neg",)), ("add", ("one",), "x")]:
                if L.is_tree(thing):
                    made(thing)
                    continue
                for call in (lambda: made(thing), lambda: made.done(thing), lambda: made.origins(thing),
                             lambda: made(tree=thing), lambda: made.done(tree=thing),
                             lambda: made.origins(tree=thing)):
                    with self.assertRaises(BadTree) as caught:
                        call()
                    self.assertIs(caught.exception.tree, thing)

    def test_kinds_of_what_is_returned(self):
        made = book(["neg(?x) -> ?x"])
        tree = ["add", ["neg", ["one"]], ["one"]]
        kept = copy.deepcopy(tree)
        done = made.done(tree)
        origins = made.origins(tree)
        self.assertIs(type(done), list)
        self.assertTrue(all(type(pair) is tuple and type(pair[0]) is tuple for pair in done))
        self.assertIs(type(origins), dict)
        self.assertTrue(all(type(place) is tuple and type(told) is tuple for place, told in origins.items()))
        done.append(0)
        origins.clear()
        self.assertEqual(made.done(tree), [((0,), 0)])
        self.assertEqual(len(made.origins(tree)), 3)
        self.assertEqual(tree, kept)
        result = made(tree)
        tree[1][1] = ["neg", ["one"]]
        self.assertEqual(result, ("add", ("one",), ("one",)))
        self.assertEqual(made(tree=kept), result)


class Great(unittest.TestCase):
    def test_deep_trees(self):
        tree = chain("neg", 299, ("one",))
        for below in (False, True):
            made = book(["neg(neg(?x)) -> ?x"], below)
            self.assertEqual(made(as_lists(tree)), ("neg", ("one",)))
            first = 1 if below else 0
            self.assertEqual(made.done(tree), [((0,) * n, 0) for n in range(first, 299 - 1 + first, 2)])
            rising = book(["neg(?x) -> keep(?x)", "one -> neg(one)"], below)
            self.assertEqual(rising(tree), chain("keep", 299, ("neg", ("one",))))
            self.assertEqual(len(rising.origins(tree)), 301)

    def test_results_of_1000_nodes(self):
        tree = ("one",)
        for _ in range(149):
            tree = ("add", tree, ("one",))
        self.assertEqual(size(tree), 299)
        made = book(["one -> add(one, add(one, neg(one)))"])
        result = made(tree)
        self.assertEqual(size(result), 149 + 150 * 6)
        self.assertEqual(list(made.origins(tree)), places(result))

    def test_what_is_dropped_need_not_be_made(self):
        tree = ("add", ("one",), chain("neg", 290, ("one",)))
        for below in (False, True):
            made = book(["add(?x, ?y) -> ?x", "neg(?x) -> add(?x, ?x)"], below)
            self.assertEqual(made(tree), ("one",))
            self.assertEqual(made.origins(tree), {(): ("old", (0,))})
            self.assertEqual(len(made.done(tree)), 291)
            self.assertEqual(len(made.done(chain("neg", 299, ("one",)))), 299)

    def test_many_calls_take_a_short_time(self):
        made = Book(L, [Rule(("neg", ("neg", "x")), "x", {}, {"x": ["add"]}), Rule(("add", "x", "y"), "y")], True)
        deep = chain("neg", 299, ("one",))
        start = time.perf_counter()
        for _ in range(100):
            made(deep)
            made.origins(deep)
        for tree in Drawing(0, L.rows).trees(1000):
            made(tree)
        self.assertLess(time.perf_counter() - start, 5)


if __name__ == "__main__":
    unittest.main()
