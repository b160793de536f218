"""Promises [4], [34], [35], [36], [37] and [38]: types of trees, and tables of them."""

import copy
import itertools
import time
import unittest

from secondruns.asking import acts, second
from secondruns.books import Book, Row
from secondruns.errors import BadTree
from secondruns.languages import Language
from secondruns.rules import Rule
from secondruns.trees import size
from secondruns.types import is_table, type_of, types
from tests.drawn import Drawing
from tests.samples import as_lists, as_mixed, chain, objects, only_tuples
from tests.slow import slow_done, slow_pass, slow_type

L = Language([("one", 0), ("neg", 1), ("add", 2)])
BARRING = Rule(("neg", ("neg", "x")), "x", {"x": ["neg", "one"]}, {"x": ["add", "keep"]})


def drawn_runs(numbers):
    for number in numbers:
        drawing = Drawing(number)
        for many in (1, 2, 3):
            books = drawing.books(many)
            yield drawing, books, books[0] if many == 1 and number % 2 else Row(books)


def mixed(thing, turn=0):
    """Lists and tuples in turn for all tuples in it."""
    if not isinstance(thing, tuple):
        return thing
    return (list, tuple)[turn % 2](mixed(inner, turn + n) for n, inner in enumerate(thing, 1))


def stacked(language, trees):
    """All trees that are a label above some of these trees."""
    for label in language.labels:
        for beneath in itertools.product(trees, repeat=language.children(label)):
            yield (label, *beneath)


class TypeOf(unittest.TestCase):
    def test_words(self):
        above = Book(L, [Rule(("neg", ("neg", "x")), "x"), Rule(("neg", ("one",)), ("one",))])
        self.assertEqual(type_of(above, ("one",)), ("one", (), ((1, (0,)),), (), ()))
        self.assertEqual(type_of(above, ("neg", ("one",))), ("neg", (), ((0, (0,)), (1, ())), (), ()))
        self.assertEqual(type_of(above, ("keep", ("one",))), ("keep", (), (), (), ()))
        below = Book(L, above.rules, True)
        self.assertEqual(type_of(below, ("one",)), ("one", (), ((1, (0,)),), ((1, (0,)),), ()))
        self.assertEqual(type_of(below, ("neg", ("one",))), ("neg", (), ((0, (0,)), (1, ())), (), ()))
        self.assertEqual(type_of(below, ("neg", ("add", ("one",), ("one",)))),
                         ("neg", (), ((0, (0,)),), ((0, (0,)),), ()))
        self.assertEqual(
            type_of(above ** 2, ("neg", ("one",))),
            ("neg", (), ((0, (0,)), (1, ())), (), (
                ((), ("one", (), ((1, (0,)),), (), ())), ((0,), ("one", (), ((1, (0,)),), (), ())))))

    def test_within(self):
        book = Book(L, [BARRING])
        self.assertEqual(type_of(book, ("add", ("one",), ("keep", ("one",)))), ("add", ("add", "keep"), (), (), ()))
        self.assertEqual(type_of(book, ("keep", ("add", ("one",), ("one",)))), ("keep", ("keep",), (), (), ()))
        self.assertEqual(type_of(book, ("neg", ("one",))), ("neg", (), ((0, (0,)),), (), ()))
        self.assertEqual(type_of(book, ("neg", ("add", ("one",), ("one",)))), ("neg", ("add",), (), (), ()))

    def test_by_its_definition(self):
        for drawing, books, runs in drawn_runs(range(60)):
            for n, tree in enumerate(drawing.trees(30)):
                wanted = slow_type(books, tree)
                self.assertEqual(type_of(runs, as_mixed(tree, n)), wanted)
                self.assertEqual(type_of(runs=runs, tree=tree), wanted)

    def test_labels_with_two_children_beneath_the_top(self):
        """[6] does not ask for these, but nothing in the definition is in their way."""
        rules = [Rule(("neg", ("add", "x", ("neg", "y"))), "y"), Rule(("add", ("add", "x", "y"), "z"), ("add", "z", "x"))]
        for ways in itertools.product((False, True), repeat=2):
            books = [Book(L, rules, ways[0]), Book(L, rules[::-1], ways[1])]
            for tree in Drawing(0, L.rows).trees(150):
                self.assertEqual(type_of(Row(books), tree), slow_type(books, tree))

    def test_tuples_throughout(self):
        def check(told):
            self.assertIsInstance(told, (tuple, str, int))
            self.assertNotIsInstance(told, bool)
            if isinstance(told, tuple):
                for inner in told:
                    check(inner)
        for drawing, _, runs in drawn_runs(range(8)):
            for told, tree in types(runs):
                check(told)
                self.assertTrue(only_tuples(tree))

    def test_bad_tree(self):
        for runs in (Book(L, []), Book(L, [BARRING], True), Book(L, [BARRING]) ** 2):
            for thing in objects() + [("two",), ("neg",), ["neg", ["one", ["one"]]]]:
                if not L.is_tree(thing):
                    with self.assertRaises(BadTree) as caught:
                        type_of(runs, thing)
                    self.assertIs(caught.exception.tree, thing)

    def test_what_comes_may_be_great(self):
        doubling = Book(L, [Rule(("neg", "x"), ("add", "x", "x")), Rule(("add", "x", "y"), ("add", "y", "x"))])
        deep = chain("neg", 299, ("one",))
        for runs in (doubling, doubling ** 2, doubling ** 3):
            self.assertEqual(type_of(runs, as_lists(deep)), type_of(runs, chain("neg", 3, ("one",))))


class Types(unittest.TestCase):
    def check_least(self, drawing, books, told):
        """Each type once, with its least tree, in the order of these; looked for among the first trees."""
        first = {}
        trees = drawing.trees(120)
        for tree in trees:
            first.setdefault(repr(slow_type(books, tree)), tree)
        wanted = [(repr(found), tree) for found, tree in
                  [(slow_type(books, tree), tree) for tree in first.values()]]
        self.assertEqual([(repr(found), tree) for found, tree in told][:len(wanted)], wanted)
        for found, tree in told[len(wanted):]:
            self.assertTrue(drawing.language.is_less(trees[-1], tree))
            if size(tree) < 40:
                self.assertEqual(slow_type(books, tree), found)
        self.assertEqual(len({repr(found) for found, _ in told}), len(told))
        for one, other in zip(told, told[1:]):
            self.assertTrue(drawing.language.is_less(one[1], other[1]))

    def test_least_trees_in_order(self):
        for drawing, books, runs in drawn_runs(range(40)):
            told = types(runs)
            self.assertIs(type(told), list)
            self.assertTrue(all(type(pair) is tuple for pair in told))
            self.check_least(drawing, books, told)
            self.assertEqual(types(runs=runs), told)
            told.clear()
            self.assertNotEqual(types(runs), told)

    def test_words(self):
        book = Book(Language([("one", 0), ("neg", 1)]), [Rule(("neg", ("neg", "x")), "x")], True)
        self.assertEqual(types(book), [
            (("one", (), (), (), ()), ("one",)),
            (("neg", (), ((0, (0,)),), ((0, (0,)),), ()), ("neg", ("one",))),
            (("keep", (), (), (), ()), ("keep", ("one",))),
            (("neg", (), ((0, ()), (0, (0,))), (), ()), ("neg", ("neg", ("one",)))),
            (("neg", (), ((0, ()), (0, (0,))), ((0, (0,)),), ()), chain("neg", 3, ("one",))),
        ])
        self.assertEqual(types(Book(L, [])), [
            (("one", (), (), (), ()), ("one",)), (("neg", (), (), (), ()), ("neg", ("one",))),
            (("keep", (), (), (), ()), ("keep", ("one",))),
            (("add", (), (), (), ()), ("add", ("one",), ("one",)))])

    def test_closed(self):
        for drawing, books, runs in drawn_runs(range(12)):
            told = types(runs)
            known = {repr(found) for found, _ in told}
            if len(told) > 25:
                continue
            for tree in stacked(drawing.language, [tree for _, tree in told]):
                self.assertIn(repr(type_of(runs, tree)), known)

    def test_the_paper_tells_never(self):
        """[37]: what is done for no tree of M is done for no tree."""
        for number in range(25):
            drawing = Drawing(number)
            book = drawing.book(3 if drawing.has_fork else 4)
            told = types(book ** 2)
            if len(told) > 30:
                continue
            found = [tree for tree in stacked(drawing.language, [tree for _, tree in told])
                     if slow_done(book, slow_pass(book, tree)[0])]
            self.assertEqual(second(book) is None, not found)
            for index in range(len(book)):
                found = [tree for tree in stacked(drawing.language, [tree for _, tree in told])
                         if index in [rule for _, rule in slow_done(book, tree)]]
                self.assertEqual(acts(book, 0, index) is None, not found)


    def test_least_trees_far_greater_than_the_ones_ahead(self):
        """Sizes of which no type has its least tree may stand between the sizes of two least trees."""
        thin = Language([("a", 0), ("p", 2)])
        for texts, many, greatest in [
            (["below\np(?x, ?y) -> ?x\n  x bar a p\n  y bar a", "above\np(?x, ?y) -> a\n  y kind a keep\n  y bar a p",
              "above\np(?x, ?y) -> keep(?y)\n  x bar p"], 9, 23),
            (["below\na -> keep(p(a, a))\np(?x, ?y) -> a\n  x bar a p\n  y kind a p\n  y bar a",
              "above\na -> a\np(?x, ?y) -> ?x\n  x kind a keep\n  x bar keep"], 9, 26),
        ]:
            row = Row([Book.read(thin, text) for text in texts])
            found = types(row)
            sizes = [size(tree) for _, tree in found]
            self.assertEqual((len(found), sizes[-1]), (many, greatest))
            self.assertGreater(max([later - earlier for earlier, later in zip(sizes, sizes[1:])]), 8)
            for told, tree in found:
                self.assertEqual(told, slow_type(row.books, tree))
            self.assertTrue(is_table(row, found))


class Tables(unittest.TestCase):
    def check(self, runs, thing, wanted):
        self.assertIs(is_table(runs, thing), wanted)

    def test_told_lists(self):
        for drawing, _, runs in drawn_runs(range(30)):
            told = types(runs)
            self.check(runs, told, True)
            self.check(runs, tuple(told), True)
            self.check(runs, told[::-1], True)
            drawing.rng.shuffle(told)
            self.check(runs, told, True)
            self.check(runs, [[mixed(found, n), as_mixed(tree, n)] for n, (found, tree) in enumerate(told)], True)
            self.assertIs(is_table(runs=runs, thing=told), True)

    def test_other_trees_of_the_types(self):
        for drawing, _, runs in drawn_runs(range(10)):
            others = {repr(type_of(runs, tree)): tree for tree in drawing.trees(100)}
            told = types(runs)
            self.check(runs, [(found, others.get(repr(found), tree)) for found, tree in told], True)
            self.check(runs, [(found, tree) for (found, _), (_, tree) in zip(told, told[1:] + told[:1])], False)

    def test_pairs_left_out_twice_or_changed(self):
        for _, _, runs in drawn_runs(range(10)):
            told = types(runs)
            for n, (found, tree) in enumerate(told):
                self.check(runs, told[:n] + told[n + 1:], False)
                self.check(runs, told + [told[n]], False)
                self.check(runs, told[:n] + [told[n]] + told[n:], False)
                for pair in ((found, found), (tree, tree), (tree, found), (found,), (found, tree, tree), found, tree,
                             (found, ("none",)), (found, ["keep"]), (found, None), (None, tree), ((), tree),
                             (found[:4], tree), (found + ((),), tree), (["none"] + list(found[1:]), tree),
                             ((found[0], ["zzz"], *found[2:]), tree), (repr(found), tree), {0: found, 1: tree}):
                    self.check(runs, told[:n] + [pair] + told[n + 1:], False)
                    self.check(runs, told[:n] + [pair] + told[n:], False)

    def test_truths_stand_for_no_integers(self):
        book = Book(L, [Rule(("neg", ("neg", ("one",))), ("one",)), Rule(("add", "x", "y"), "y")], True)

        def changed(thing):
            if isinstance(thing, tuple):
                return tuple(changed(inner) for inner in thing)
            return bool(thing) if isinstance(thing, int) else thing
        for runs in (book, book ** 2):
            told = types(runs)
            self.check(runs, told, True)
            many = 0
            for n, (found, tree) in enumerate(told):
                if changed(found) is not found and "True" in repr(changed(found)) + "True" * ("0" in repr(found)):
                    many += 1
                    self.check(runs, told[:n] + [(changed(found), tree)] + told[n + 1:], False)
            self.assertGreater(many, 0)

    def test_things_that_are_no_tables(self):
        for runs in (Book(L, []), Book(L, [BARRING]), Book(L, [BARRING], True) ** 2):
            told = types(runs)
            for thing in objects() + [[], (), {}, dict(enumerate(told)), [told], repr(told), {"a": told}, L, runs,
                                      [found for found, _ in told], [tree for _, tree in told],
                                      told[0], [told[0]], [list(pair) for pair in told[:2]]]:
                self.check(runs, thing, False)
                self.check(runs, told + [thing], False)
                self.check(runs, [thing] + told, False)

    def test_what_is_passed_stays(self):
        book = Book(L, [BARRING], True)
        told = [[mixed(found), as_lists(tree)] for found, tree in types(book ** 2)]
        kept = copy.deepcopy(told)
        self.check(book ** 2, told, True)
        self.assertEqual(told, kept)


class Great(unittest.TestCase):
    def test_great_books_take_a_short_time(self):
        fork = Language([("p", 2), ("a", 0), ("b", 0), ("c", 0)])
        chains = Language([("f", 1), ("g", 1), ("h", 1), ("a", 0)])
        rows = [
            Row([Book(fork, [Rule(("p", "x", "y"), "y", {"x": ["c", "keep"]}, {"x": ["a", "keep"]})], True),
                 Book(fork, [Rule(("p", "x", "y"), "y", {"x": ["a", "b", "c", "p"]}, {"x": ["c"]}),
                             Rule(("p", "x", "y"), "x", {"x": ["a", "keep", "p"]}, {"y": ["c", "b"]})], True),
                 Book(fork, [])]),
            Row([Book(chains, [Rule(("f", "x"), "x", {}, {"x": ["f", "keep"]})], True),
                 Book(chains, [Rule(("g", "x"), "x", {}, {"x": ["g"]}), Rule(("h", ("h", "x")), "x"),
                               Rule(("h", "x"), ("g", ("h", ("keep", ("g", "x")))), {}, {"x": ["h"]})]),
                 Book(chains, [Rule(("g", "x"), ("g", ("f", "x")), {}, {"x": ["g", "h"]})], True)]),
        ]
        start = time.perf_counter()
        for row in rows:
            told = types(row)
            self.assertGreater(len(told), 100)
            self.assertTrue(is_table(row, told))
        self.assertLess(time.perf_counter() - start, 5)


if __name__ == "__main__":
    unittest.main()
