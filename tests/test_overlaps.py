"""Promises [41] and [42]: shapes that lie over one another."""

import unittest

from secondruns.asking import second
from secondruns.books import Book
from secondruns.errors import UnlikeLanguages
from secondruns.languages import Language
from secondruns.overlaps import meets, overlaps, written
from secondruns.rules import Rule, read_shape
from tests.drawn import Drawing
from tests.samples import chain
from tests.slow import all_places, at, label_spots, slow_shape_fits

CHAIN = Language([("a", 0), ("f", 1), ("g", 1), ("h", 1)])
FORK = Language([("a", 0), ("f", 1), ("g", 1), ("p", 2)])


def fork_book(*rules, below=False):
    return Book.read(FORK, "\n".join([("above", "below")[below], *rules]))


def met(shape, other):
    return meets(read_shape(shape), read_shape(other))


def as_lists(shape):
    return shape if isinstance(shape, str) else [shape[0]] + [as_lists(child) for child in shape[1:]]


def both_fit(shape, other, place, tree):
    """Whether a shape fits a tree whose piece at a place another shape fits."""
    if not slow_shape_fits(shape, tree, {}) or place not in all_places(tree):
        return False
    return slow_shape_fits(other, at(tree, place), {})


def laid_over(shape, other):
    """A shape which all trees fit that both shapes fit, with `other` at the top, or None."""
    if isinstance(shape, str):
        return other
    if isinstance(other, str):
        return shape
    if shape[0] != other[0] or len(shape) != len(other):
        return None
    children = [laid_over(one, two) for one, two in zip(shape[1:], other[1:])]
    return None if None in children else (shape[0], *children)


def slow_meets(shape, other):
    return [place for place in label_spots(shape) if laid_over(at(shape, place), other) is not None]


class Meets(unittest.TestCase):
    def test_at_the_top(self):
        self.assertEqual(met("f(?x)", "f(?x)"), [()])
        self.assertEqual(met("f(?x)", "f(g(a))"), [()])
        self.assertEqual(met("f(g(a))", "f(?x)"), [()])
        self.assertEqual(met("f(g(?x))", "f(h(?x))"), [])
        self.assertEqual(met("a", "a"), [()])
        self.assertEqual(met("a", "f(?x)"), [])

    def test_beneath(self):
        self.assertEqual(met("f(g(?x))", "g(h(?y))"), [(0,)])
        self.assertEqual(met("f(g(h(?x)))", "g(?x)"), [(0,)])
        self.assertEqual(met("f(f(f(?x)))", "f(f(?x))"), [(), (0,), (0, 0)])
        self.assertEqual(met("p(f(?x), f(a))", "f(?y)"), [(0,), (1,)])
        self.assertEqual(met("p(p(?x, ?y), p(f(?z), a))", "p(f(?x), ?y)"), [(0,), (1,)])
        self.assertEqual(met("p(p(?x, ?y), p(f(?z), a))", "p(?u, ?x)"), [(), (0,), (1,)])

    def test_not_over_a_hole(self):
        self.assertEqual(met("f(?x)", "g(?y)"), [])
        self.assertEqual(met("p(?x, ?y)", "a"), [])
        self.assertEqual(met("?x", "f(?y)"), [])
        self.assertEqual(met("?x", "?x"), [])

    def test_holes_in_both(self):
        self.assertEqual(met("p(f(?x), ?y)", "p(?x, f(?y))"), [()])
        self.assertEqual(met("p(f(?x), ?y)", "p(f(f(?y)), f(?x))"), [()])
        self.assertEqual(met("p(f(?x), g(?y))", "p(?x, f(?y))"), [])

    def test_each_place_of_a_hole_has_a_content_of_its_own(self):
        self.assertEqual(met("p(?x, ?x)", "p(f(?y), g(?y))"), [()])
        self.assertEqual(met("p(f(a), g(a))", "p(?x, ?x)"), [()])
        self.assertEqual(met("p(f(?x), ?x)", "p(?x, f(?x))"), [()])

    def test_another_shape_that_is_a_hole(self):
        self.assertEqual(met("p(f(?x), a)", "?y"), [(), (0,), (1,)])

    def test_shapes_that_hold_keep(self):
        self.assertEqual(met("keep(f(?x))", "f(?y)"), [(0,)])
        self.assertEqual(met("f(keep(?x))", "f(g(?y))"), [])
        self.assertEqual(met("f(keep(?x))", "f(?y)"), [()])
        self.assertEqual(met("keep(keep(?x))", "keep(?keep)"), [(), (0,)])

    def test_another_number_of_children(self):
        self.assertEqual(met("f(?x, ?y)", "f(?x)"), [])
        self.assertEqual(met("f", "f(?x)"), [])
        self.assertEqual(met("f(f, f(?x), f(?x, ?y))", "f(a, ?x)"), [(2,)])

    def test_lists_for_tuples(self):
        shape, other = ("p", ("f", "x"), ("p", "y", "z")), ("p", "u", ("p", "x", "y"))
        self.assertEqual(meets(shape, other), [(), (1,)])
        self.assertEqual(meets(as_lists(shape), as_lists(other)), [(), (1,)])
        self.assertEqual(meets(["p", ("f", "x"), ["p", "y", "z"]], other), [(), (1,)])

    def test_kinds_of_values(self):
        found = met("f(f(a))", "f(?x)")
        self.assertIs(type(found), list)
        self.assertEqual([type(place) for place in found], [tuple, tuple])
        shape = ["f", ["a"]]
        meets(shape, shape)
        self.assertEqual(shape, ["f", ["a"]])

    def test_deep_shapes(self):
        deep = chain("f", 300, "x")
        self.assertEqual(len(meets(deep, ("f", ("f", "x")))), 300)
        # The end lies over the hole only from the places on that are deep enough.
        self.assertEqual(meets(deep, chain("f", 290, ("a",))), [(0,) * n for n in range(10, 300)])
        self.assertEqual(meets(chain("f", 300, ("a",)), chain("f", 300, ("a",))), [()])

    def test_held_against_trees(self):
        """Each place is told just if there is a tree which both shapes fit there."""
        small = Language([("a", 0), ("f", 1), ("p", 2)])
        trees = [tree for nodes in range(1, 7) for tree in small.trees(nodes)]
        shapes = [read_shape(text) for text in (
            "?x", "a", "f(?x)", "f(a)", "f(f(?x))", "p(?x, ?y)", "p(f(?x), ?y)", "p(?x, f(?y))", "p(?x, ?x)",
            "p(a, ?x)", "f(p(?x, a))", "keep(?x)", "f(keep(?x))", "keep(p(?x, ?y))")]
        for shape in shapes:
            for other in shapes:
                found = [place for place in label_spots(shape)
                         if any([both_fit(shape, other, place, tree) for tree in trees])]
                self.assertEqual(meets(shape, other), found, (shape, other))

    def test_drawn(self):
        for number in range(9000, 9150):
            drawing = Drawing(number)
            one, other = drawing.book(6), drawing.book(6)
            for rule in one.rules:
                for further in other.rules:
                    for shape, over in [(rule.left, further.left), (rule.right, further.left),
                                        (further.left, rule.right), (rule.right, further.right)]:
                        self.assertEqual(meets(shape, over), slow_meets(shape, over))


class Overlaps(unittest.TestCase):
    def test_unlike_books(self):
        one = fork_book("f(g(?x)) -> ?x", "p(f(?x), ?y) -> ?x")
        other = fork_book("g(f(?x)) -> ?x", "f(?x) -> ?x", "p(?x, g(?y)) -> ?x")
        self.assertEqual(overlaps(one, other), [
            (0, 0, (0,)), (0, 1, ()), (1, 1, (0,)), (1, 2, ())])
        self.assertEqual(overlaps(other, one), [(0, 0, (0,)), (1, 0, ()), (2, 1, ())])

    def test_a_book_and_itself(self):
        book = fork_book("f(f(?x)) -> ?x", "f(g(?x)) -> ?x")
        found = [(0, 0, (0,)), (0, 1, (0,))]
        self.assertEqual(overlaps(book, book), found)
        self.assertEqual(overlaps(book, fork_book("f(f(?y)) -> ?y", "f(g(?x)) -> ?x")), [
            (0, 0, ()), (0, 0, (0,)), (0, 1, (0,)), (1, 1, ())])

    def test_equal_books_made_apart(self):
        book = fork_book("f(f(?x)) -> ?x", "f(?x) -> ?x\n  x bar g")
        same = Book(Language([["a", 0], ["f", 1], ["g", 1], ["p", 2]]),
                    [Rule(("f", ("f", "x")), "x"), Rule(("f", "x"), "x", {}, {"x": ["g", "g"]})])
        self.assertEqual(overlaps(book, same), [(0, 0, (0,)), (0, 1, ()), (0, 1, (0,)), (1, 0, ())])
        self.assertEqual(overlaps(book, same), overlaps(book, book))

    def test_books_that_are_not_equal(self):
        book = fork_book("f(?x) -> ?x")
        self.assertEqual(overlaps(book, book), [])
        self.assertEqual(overlaps(book, fork_book("f(?x) -> ?x", below=True)), [(0, 0, ())])
        self.assertEqual(overlaps(book, fork_book("f(?x) -> a")), [(0, 0, ())])
        self.assertEqual(overlaps(book, fork_book("f(?x) -> ?x\n  x bar a")), [(0, 0, ())])

    def test_equal_rules_in_one_book(self):
        book = fork_book("f(?x) -> ?x", "f(?x) -> ?x")
        self.assertEqual(overlaps(book, book), [(0, 1, ()), (1, 0, ())])

    def test_kinds_and_bars_are_not_looked_at(self):
        one = fork_book("f(?x) -> ?x\n  x kind")
        other = fork_book("f(g(?x)) -> ?x\n  x bar a keep")
        self.assertEqual(overlaps(one, other), [(0, 0, ())])
        self.assertEqual(overlaps(other, one), [(0, 0, ())])

    def test_no_rules(self):
        book = fork_book("f(?x) -> ?x")
        self.assertEqual(overlaps(book, fork_book()), [])
        self.assertEqual(overlaps(fork_book(), book), [])
        self.assertEqual(overlaps(fork_book(), fork_book()), [])

    def test_drawn(self):
        for number in range(9200, 9300):
            drawing = Drawing(number)
            one = drawing.book(6)
            other = one if number % 3 == 0 else drawing.book(6)
            found = [(i, j, place) for i, rule in enumerate(one.rules) for j, further in enumerate(other.rules)
                     for place in slow_meets(rule.left, further.left)
                     if one != other or i != j or place != ()]
            self.assertEqual(overlaps(one, other), sorted(found))
            self.assertEqual(overlaps(one, other), sorted(set(found)))


class Written(unittest.TestCase):
    def test_in(self):
        one = fork_book("a -> f(g(a))")
        other = fork_book("g(?x) -> a", "f(f(a)) -> a")
        self.assertEqual(written(one, other), [(0, 0, "in", (0,))])

    def test_over(self):
        one = fork_book("a -> g(a)")
        other = fork_book("f(g(?x)) -> a", "g(f(?x)) -> a", "p(g(a), g(?x)) -> a")
        self.assertEqual(written(one, other), [
            (0, 0, "over", (0,)), (0, 2, "over", (0,)), (0, 2, "over", (1,))])

    def test_both_and_their_order(self):
        one = fork_book("g(?x) -> f(f(?x))", "p(?x, ?y) -> f(?x)")
        other = fork_book("f(f(?x)) -> a", "f(?y) -> a")
        self.assertEqual(written(one, other), [
            (0, 0, "in", ()), (0, 0, "in", (0,)), (0, 0, "over", (0,)), (0, 1, "in", ()), (0, 1, "in", (0,)),
            (1, 0, "in", ()), (1, 0, "over", (0,)), (1, 1, "in", ())])

    def test_right_shapes_that_are_a_hole(self):
        one = fork_book("f(?x) -> ?x")
        self.assertEqual(written(one, fork_book("f(f(?x)) -> ?x", "g(a) -> a")), [])

    def test_right_shapes_that_hold_keep(self):
        one = fork_book("f(?x) -> keep(f(?x))")
        self.assertEqual(written(one, one), [(0, 0, "in", (0,))])
        self.assertEqual(written(one, fork_book("f(f(?x)) -> ?x", "g(?x) -> ?x")), [(0, 0, "in", (0,))])
        self.assertEqual(written(fork_book("f(?x) -> g(keep(?x))"), fork_book("g(?x) -> a", "g(g(?x)) -> a")), [
            (0, 0, "in", ()), (0, 1, "over", (0,))])

    def test_a_hole_twice(self):
        one = fork_book("f(?x) -> p(?x, ?x)")
        other = fork_book("p(f(?x), g(?y)) -> ?x", "f(p(a, ?x)) -> ?x")
        self.assertEqual(written(one, other), [(0, 0, "in", ()), (0, 1, "over", (0,))])

    def test_a_book_and_itself(self):
        book = fork_book("f(?x) -> f(f(?x))")
        self.assertEqual(written(book, book), [(0, 0, "in", ()), (0, 0, "in", (0,))])

    def test_kinds_and_bars_are_not_looked_at(self):
        one = fork_book("f(?x) -> g(?x)\n  x kind")
        other = fork_book("g(?x) -> ?x\n  x bar a keep")
        self.assertEqual(written(one, other), [(0, 0, "in", ())])

    def test_no_rules(self):
        book = fork_book("f(?x) -> f(?x)")
        self.assertEqual(written(book, fork_book()), [])
        self.assertEqual(written(fork_book(), book), [])

    def test_drawn(self):
        for number in range(9400, 9500):
            drawing = Drawing(number)
            one, other = drawing.book(6), drawing.book(6)
            found = []
            for i, rule in enumerate(one.rules):
                for j, further in enumerate(other.rules):
                    found.extend([(i, j, "in", place) for place in slow_meets(rule.right, further.left)])
                    if not isinstance(rule.right, str):
                        found.extend([(i, j, "over", place) for place in slow_meets(further.left, rule.right)
                                      if place != ()])
            self.assertEqual(written(one, other), sorted(found))

    def test_the_fact(self):
        """Without kinds, bars and right shapes that are holes, a second pass does nothing if nothing is written."""
        resting = 0
        for number in range(9600, 9900):
            drawing = Drawing(number)
            book = drawing.book(drawing.limits()[1])
            plain = Book(book.language, [Rule(rule.left, rule.right) for rule in book.rules], book.below)
            if written(plain, plain) == [] and not any([isinstance(rule.right, str) for rule in plain.rules]):
                resting += len(plain.rules) > 0
                self.assertIsNone(second(plain))
        self.assertGreater(resting, 10)


class Languages(unittest.TestCase):
    def test_unlike_languages(self):
        book = fork_book("f(?x) -> ?x")
        for rows in ([("a", 0), ("f", 1), ("g", 1)], [("a", 0), ("g", 1), ("f", 1), ("p", 2)],
                     [("a", 0), ("f", 1), ("g", 1), ("p", 1)], [("b", 0), ("f", 1), ("g", 1), ("p", 2)]):
            other = Book(Language(rows), [])
            for function in (overlaps, written):
                for one, two in [(book, other), (other, book)]:
                    with self.assertRaises(UnlikeLanguages):
                        function(one, two)

    def test_equal_languages_that_were_made_apart(self):
        book = fork_book("f(?x) -> ?x")
        other = Book(Language(list(FORK.rows)), [Rule(("f", ("g", "x")), "x")], True)
        self.assertEqual(overlaps(book, other), [(0, 0, ())])
        self.assertEqual(written(other, book), [])


if __name__ == "__main__":
    unittest.main()
