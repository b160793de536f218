"""Promises [4], [21], [22] and [23]: rows of passes, and passes until nothing is done."""

import inspect
import unittest

from secondruns.books import Book, Row, settled
from secondruns.errors import BadCount, BadRow, BadTree, NoBook, NoRest
from secondruns.languages import Language
from secondruns.rules import Rule
from tests.drawn import Drawing
from tests.samples import as_lists, as_mixed, chain, is_integer, objects, only_tuples
from tests.slow import slow_done, slow_pass, slow_runs

L = Language([("one", 0), ("neg", 1), ("add", 2)])
SMALL = Language([("one", 0), ("neg", 1)])
A = Book(L, [Rule(("add", ("one",), "x"), ("neg", "x"))])
B = Book(L, [Rule(("neg", ("one",)), ("one",))], True)
C = Book(L, [])
S = Book(SMALL, [])
NO_TREES = [("two",), ("neg",), ["add", ["one"]], ("one", ("one",))]


class Rows(unittest.TestCase):
    def bad(self, books, index):
        for call in (lambda: Row(books), lambda: Row(books=books)):
            with self.assertRaises(BadRow) as caught:
                call()
            self.assertEqual(caught.exception.index, index)
            self.assertIs(type(caught.exception.index), int)

    def test_bad_row(self):
        for thing in objects() + [A, L, {A.text(): A}]:
            if not isinstance(thing, (list, tuple)):
                self.bad(thing, 0)
            self.bad([thing] if thing is not A else [[A]], 0)
            if thing is not A:
                self.bad([A, thing], 1)
                self.bad((A, B, thing, S), 2)
                self.bad([A, B, C, thing], 3)
        self.bad([], 0)
        self.bad((), 0)
        self.bad([S, A], 1)
        self.bad([A, B, S], 2)
        self.bad([A, S, 0], 1)
        self.bad([A, B, C, A], 3)
        self.bad([A] * 7, 3)
        self.bad([Row([A])], 0)
        self.bad([A, Row([A])], 1)

    def test_attributes(self):
        for books in ([A], (A, B), [A, B, A], [C, C, C]):
            row = Row(books)
            self.assertEqual(row.books, tuple(books))
            self.assertIs(type(row.books), tuple)
            self.assertEqual(row.language, L)
            self.assertEqual(len(row), len(books))
            self.assertLessEqual({"books", "language"}, set(vars(row)))
            for k, book in enumerate(books):
                self.assertEqual(row[k], book)

    def test_no_book(self):
        row = Row([A, B])
        for thing in objects() + [3, -2, slice(0, 1), A]:
            if is_integer(thing) and 0 <= thing < 2:
                continue
            with self.assertRaises(NoBook) as caught:
                row[thing]
            self.assertIs(caught.exception.at, thing)

    def test_later_changes_have_no_effect(self):
        books = [A, B]
        row = Row(books)
        books.clear()
        self.assertEqual(row, Row([A, B]))

    def test_equality(self):
        rows = [Row([A]), Row([B]), Row([A, B]), Row([B, A]), Row([A, A]), Row([A, B, C]), Row([S])]
        for n, one in enumerate(rows):
            self.assertIs(one == Row(list(one.books)), True)
            self.assertIs(one != Row(list(one.books)), False)
            for k, other in enumerate(rows):
                self.assertIs(one == other, n == k)
                self.assertIs(one != other, n != k)
            for thing in objects() + [A, B, [A], (A,), one.books, L]:
                self.assertIs(one == thing, False)
        self.assertIs(A == Row([A]), False)

    def test_calls_and_steps(self):
        for number in range(60):
            drawing = Drawing(number)
            for many in (1, 2, 3):
                row = Row(drawing.books(many))
                for n, tree in enumerate(drawing.trees(25)):
                    passed = as_mixed(tree, n)
                    steps = list(row.steps(passed))
                    self.assertEqual(steps, [slow_runs(row.books[:k], tree) for k in range(many + 1)])
                    self.assertTrue(all(only_tuples(step) for step in steps))
                    self.assertEqual(row(passed), steps[-1])
                    self.assertEqual(row(tree=passed), steps[-1])

    def test_steps_are_made_one_by_one(self):
        row = Row([A, B])
        steps = row.steps(["add", ["one"], ["one"]])
        self.assertTrue(inspect.isgenerator(steps))
        self.assertEqual(next(steps), ("add", ("one",), ("one",)))
        self.assertEqual(next(steps), ("neg", ("one",)))
        self.assertEqual(next(steps), ("one",))
        self.assertRaises(StopIteration, next, steps)
        self.assertEqual(list(row.steps(tree=("one",))), [("one",)] * 3)

    def test_bad_tree(self):
        for row in (Row([A]), Row([C, B, A])):
            for thing in objects() + NO_TREES:
                if L.is_tree(thing):
                    continue
                with self.assertRaises(BadTree) as caught:
                    row(thing)
                self.assertIs(caught.exception.tree, thing)
                steps = row.steps(thing)
                with self.assertRaises(BadTree) as caught:
                    next(steps)
                self.assertIs(caught.exception.tree, thing)


class Signs(unittest.TestCase):
    def test_product(self):
        self.assertEqual(A * B, Row([A, B]))
        self.assertEqual(A * Row([B, C]), Row([A, B, C]))
        self.assertEqual(Row([A, B]) * C, Row([A, B, C]))
        self.assertEqual(Row([A]) * Row([B, C]), Row([A, B, C]))
        self.assertEqual(A * B * C, Row([A, B, C]))
        self.assertEqual(A * (B * C), Row([A, B, C]))
        for made in (A * B, A * Row([B]), Row([A]) * B, Row([A]) * Row([B])):
            self.assertIs(type(made), Row)
            self.assertEqual(made.books, (A, B))

    def test_products_that_make_no_row(self):
        for one, other, index in ((A, S, 1), (S, A, 1), (A * B, S, 2), (A * B, A * B, 3), (A * B * C, A, 3),
                                  (A, A * B * C, 3), (A, Row([S]), 1), (A * B * C, S, 3), (A * A, S * S, 2)):
            with self.assertRaises(BadRow) as caught:
                one * other
            self.assertEqual(caught.exception.index, index)

    def test_power(self):
        for book in (A, B, C, S):
            self.assertEqual(book ** 1, Row([book]))
            self.assertEqual(book ** 2, Row([book, book]))
            self.assertEqual(book ** 3, Row([book, book, book]))
            self.assertIs(type(book ** 1), Row)

    def test_bad_count(self):
        for thing in objects() + [4, 0, -1, 10 ** 9, A, Row([A])]:
            if is_integer(thing) and 1 <= thing <= 3:
                continue
            with self.assertRaises(BadCount) as caught:
                A ** thing
            self.assertIs(caught.exception.count, thing)


class Settled(unittest.TestCase):
    def test_words(self):
        halving = Book(L, [Rule(("neg", ("neg", "x")), ("neg", "x"))])
        tree = chain("neg", 8, ("one",))
        for passed in (tree, as_lists(tree)):
            self.assertEqual(settled(halving, passed, 3), (("neg", ("one",)), 3))
            self.assertEqual(settled(book=halving, tree=passed, most=10 ** 30), (("neg", ("one",)), 3))
            with self.assertRaises(NoRest) as caught:
                settled(halving, passed, 2)
            self.assertEqual(caught.exception.tree, chain("neg", 2, ("one",)))
            with self.assertRaises(NoRest) as caught:
                settled(halving, passed, 0)
            self.assertEqual(caught.exception.tree, tree)
            self.assertTrue(only_tuples(caught.exception.tree))
        self.assertEqual(settled(halving, ["neg", ["one"]], 0), (("neg", ("one",)), 0))
        self.assertIs(type(settled(halving, tree, 3)), tuple)

    def test_drawn_books(self):
        for number in range(120):
            drawing = Drawing(number)
            book = drawing.book(6)
            for tree in drawing.trees(12):
                for most in range(4):
                    self.check(book, tree, most)

    def check(self, book, tree, most):
        made, many = tree, 0
        while many < most and slow_done(book, made):
            made, many = slow_pass(book, made)[0], many + 1
        if slow_done(book, made):
            with self.assertRaises(NoRest) as caught:
                settled(book, tree, most)
            self.assertEqual(caught.exception.tree, made)
        else:
            self.assertEqual(settled(book, tree, most), (made, many))

    def test_passes_that_change_nothing_count(self):
        idle = Book(L, [Rule(("one",), ("one",))])
        for most in (0, 1, 2, 10 ** 40):
            with self.assertRaises(NoRest) as caught:
                settled(idle, ("neg", ("one",)), most)
            self.assertEqual(caught.exception.tree, ("neg", ("one",)))

    def test_trees_that_come_again(self):
        """However many passes may be made, what there is behind them is told."""
        language = Language([("a", 0), ("b", 0), ("c", 0), ("f", 1)])
        turning = Book(language, [Rule(("a",), ("b",)), Rule(("b",), ("c",)), Rule(("c",), ("a",))])
        for rule, tree, before in ((turning, ("f", ("a",)), 0),
                                   (Book(language, [Rule(("f", ("f", "x")), ("f", "x")), Rule(("a",), ("a",))]),
                                    chain("f", 9, ("a",)), 4)):
            made = [tree]
            for _ in range(40):
                made.append(rule(made[-1]))
            for most in list(range(40)) + [10 ** 6 + n for n in range(7)] + [10 ** 50 + n for n in range(7)]:
                with self.assertRaises(NoRest) as caught:
                    settled(rule, tree, most)
                at = most if most < 40 else 30 + (most - 30) % 3 if rule is turning else 40
                self.assertEqual(caught.exception.tree, made[at])

    def test_the_first_error(self):
        for thing in objects():
            if not L.is_tree(thing):
                for most in (0, -1, None):
                    with self.assertRaises(BadTree) as caught:
                        settled(A, thing, most)
                    self.assertIs(caught.exception.tree, thing)
            if not (is_integer(thing) and thing >= 0):
                for tree in (("one",), ("add", ("one",), ("one",))):
                    with self.assertRaises(BadCount) as caught:
                        settled(A, tree, thing)
                    self.assertIs(caught.exception.count, thing)

    def test_deep_trees(self):
        book = Book(L, [Rule(("neg", ("neg", "x")), ("neg", "x"))], True)
        self.assertEqual(settled(book, chain("neg", 299, ("one",)), 20), (("neg", ("one",)), 9))


if __name__ == "__main__":
    unittest.main()
