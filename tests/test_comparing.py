"""Promises [30] to [33]: runs compared."""

import unittest

from secondruns.asking import second
from secondruns.books import Book, Row
from secondruns.calls import Calls
from secondruns.comparing import (
    Parting, alike, any_order, order_parting, parting, same_again, undoes,
)
from secondruns.errors import RunError, UnlikeLanguages
from secondruns.hunts import Hunt
from secondruns.languages import Language
from secondruns.rules import Rule
from secondruns.trees import read_tree, size, tree_text
from tests.drawn import Drawing
from tests.samples import chain, only_tuples
from tests.slow import slow_runs

CHAIN = Language([("a", 0), ("f", 1), ("g", 1), ("h", 1)])
FORK = Language([("a", 0), ("f", 1), ("g", 1), ("p", 2)])


def chain_book(*rules, below=False):
    return Book.read(CHAIN, "\n".join([("above", "below")[below], *rules]))


def fork_book(*rules, below=False):
    return Book.read(FORK, "\n".join([("above", "below")[below], *rules]))


def both_ways(*rules):
    return [chain_book(*rules), chain_book(*rules, below=True)]


def books_in(runs):
    return list(runs.books) if isinstance(runs, Row) else [runs]


def lesser_trees(language, tree):
    """All trees ahead of a tree, in order."""
    found = []
    for nodes in range(1, size(tree) + 1):
        for other in language.trees(nodes):
            if other == tree:
                return found
            found.append(other)
    raise AssertionError(tree)


class Checks(unittest.TestCase):
    def check_parting(self, found, one, other, trees):
        """Holds what was found against what the passes make of these trees, which stand in order."""
        if found is None:
            for tree in trees:
                self.assertEqual(one(tree), other(tree), tree)
            return
        self.assertIsInstance(found, Parting)
        self.assertIsInstance(found.results, tuple)
        self.assertTrue(only_tuples(found.tree))
        self.assertEqual(found.results, (one(found.tree), other(found.tree)))
        self.assertNotEqual(*found.results)
        for tree in trees:
            if tree == found.tree:
                break
            self.assertEqual(one(tree), other(tree), (tree, found.tree))

    def check_parted_at(self, one, other, text):
        """The two runs are parted by this tree, and by none ahead of it."""
        found = parting(one, other)
        self.assertEqual(tree_text(found.tree), text)
        self.assertIs(alike(one, other), False)
        made = tuple(slow_runs(books_in(runs), found.tree) for runs in (one, other))
        self.assertEqual(found.results, made)
        self.assertNotEqual(*made)
        for tree in lesser_trees(one.language, found.tree):
            self.assertEqual(one(tree), other(tree))
        turned = parting(other, one)
        self.assertEqual((turned.tree, turned.results), (found.tree, found.results[::-1]))

    def check_alike(self, one, other):
        self.assertIsNone(parting(one, other))
        self.assertIsNone(parting(other, one))
        self.assertIs(alike(one, other), True)
        self.assertIs(alike(other, one), True)


class Named(Checks):
    def test_a_book_is_like_itself(self):
        for book in both_ways("f(g(?x)) -> h(?x)", "h(?x) -> keep(?x)"):
            self.check_alike(book, book)
            self.check_alike(book, Book(Language(list(CHAIN.rows)), list(book.rules), book.below))
            self.check_alike(book, Row([book]))
            self.check_alike(Row([book]), Row([book]))
            self.check_alike(book ** 3, Row([book, book, book]))

    def test_other_names_of_holes(self):
        for below in (False, True):
            one = fork_book("p(f(?x), ?y) -> p(?y, ?x)\n  x bar g\n  y kind a f", below=below)
            other = fork_book("p(f(?keep), ?p) -> p(?p, ?keep)\n  keep bar g\n  p kind a f", below=below)
            self.check_alike(one, other)
            turned = fork_book("p(f(?y), ?x) -> p(?x, ?y)\n  y bar g\n  x kind a f", below=below)
            self.check_alike(one, turned)

    def test_rules_exchanged(self):
        for one, other in zip(both_ways("f(?x) -> ?x", "g(?x) -> h(?x)"),
                              both_ways("g(?x) -> h(?x)", "f(?x) -> ?x")):
            self.check_alike(one, other)
        for one, other in zip(both_ways("f(g(?x)) -> ?x", "f(?x) -> h(?x)"),
                              both_ways("f(?x) -> h(?x)", "f(g(?x)) -> ?x")):
            self.check_parted_at(one, other, "f(g(a))")

    def test_a_rule_that_never_acts(self):
        for one, other in zip(both_ways("f(?x) -> g(?x)", "f(g(?x)) -> ?x"), both_ways("f(?x) -> g(?x)")):
            self.check_alike(one, other)
        for one, other in zip(both_ways("f(?x) -> ?x", "g(?x) -> ?x\n  x kind"), both_ways("f(?x) -> ?x")):
            self.check_alike(one, other)
        # There are no contents without a and keep, for each tree has its end.
        for one, other in zip(both_ways("f(?x) -> g(?x)\n  x bar a keep", "f(f(?x)) -> ?x"),
                              both_ways("f(f(?x)) -> ?x")):
            self.check_alike(one, other)

    def test_a_rule_less(self):
        for one, other in zip(both_ways("f(f(?x)) -> ?x", "g(h(a)) -> a"), both_ways("f(f(?x)) -> ?x")):
            self.check_parted_at(one, other, "g(h(a))")

    def test_kinds_and_bars_less(self):
        for one, other in zip(both_ways("f(?x) -> ?x\n  x kind a f g keep"), both_ways("f(?x) -> ?x")):
            self.check_parted_at(one, other, "f(h(a))")
        for one, other in zip(both_ways("f(?x) -> h(?x)\n  x bar g"), both_ways("f(?x) -> h(?x)")):
            self.check_parted_at(one, other, "f(g(a))")
        for one, other in zip(both_ways("f(?x) -> h(?x)\n  x bar keep"), both_ways("f(?x) -> h(?x)")):
            self.check_parted_at(one, other, "f(keep(a))")
        for one, other in zip(both_ways("f(f(?x)) -> ?x\n  x kind a f g keep\n  x bar h"),
                              both_ways("f(f(?x)) -> ?x\n  x bar h")):
            self.check_alike(one, other)

    def test_bars_do_not_look_beneath_keep(self):
        one = chain_book("f(g(?x)) -> h(?x)\n  x kind a keep\n  x bar g")
        self.check_alike(one, chain_book("f(g(?x)) -> h(?x)\n  x kind a keep"))

    def test_the_other_direction(self):
        self.check_alike(*both_ways("f(f(?x)) -> ?x"))
        self.check_alike(*both_ways("f(?x) -> g(?x)", "h(?x) -> h(h(?x))"))
        self.check_parted_at(*both_ways("f(f(?x)) -> g(?x)"), "f(f(f(a)))")
        self.check_parted_at(*both_ways("f(g(?x)) -> h(?x)", "g(f(?x)) -> h(?x)"), "f(g(f(a)))")

    def test_rules_that_write_a_hole_twice(self):
        for below in (False, True):
            one = fork_book("f(?x) -> p(?x, ?x)", below=below)
            self.check_alike(one, fork_book("f(?y) -> p(?y, ?y)", below=not below))
            self.check_parted_at(one, fork_book("f(?x) -> p(?x, a)", below=below), "f(f(a))")
            self.check_parted_at(one, fork_book("f(?x) -> p(?x, a)\n  x kind a", "f(?x) -> p(?x, ?x)\n  x bar g",
                                                below=below), "f(g(a))")
            self.check_alike(fork_book("p(?x, ?y) -> p(p(?x, ?x), ?y)", below=below),
                             fork_book("p(?y, ?x) -> p(p(?y, ?y), ?x)", below=not below))
            # The one drops what the other one has doubled ahead of it; both do it deep down as well.
            self.check_parted_at(fork_book("p(f(?x), ?y) -> p(?x, ?x)", below=below),
                                 fork_book("p(f(?x), ?y) -> p(?x, ?x)\n  x kind a g keep p\n  y bar f", below=below),
                                 "p(f(a), f(a))")

    def test_calls_that_are_constant(self):
        for below in (False, True):
            one = fork_book("p(?x, ?y) -> f(?y)", "f(?x) -> a", "g(?x) -> a", below=below)
            self.check_alike(Row([one, one]), Row([one, fork_book("f(?z) -> a", below=not below)]))
            dropping = fork_book("p(?x, ?y) -> a", below=below)
            self.check_alike(dropping, fork_book("p(?x, ?y) -> a", below=not below))
            self.check_alike(Row([dropping, fork_book("f(a) -> a")]),
                             Row([fork_book("p(?x, ?y) -> a"), fork_book("f(a) -> a")]))

    def test_calls_on_two_children(self):
        """What is told of one child may come of the other one, where both are constant."""
        constant = fork_book("f(?x) -> a", "g(?x) -> a", "p(?x, ?y) -> a")
        first = fork_book("p(?x, ?y) -> f(?x)")
        second = fork_book("p(?x, ?y) -> f(?y)")
        self.check_parted_at(first, second, "p(a, f(a))")
        self.check_alike(Row([constant, first]), Row([constant, second]))
        kept = fork_book("f(?x) -> a", "g(?x) -> a")
        self.check_parted_at(Row([kept, first]), Row([kept, second]), "p(a, keep(a))")

    def test_books_without_rules(self):
        nothing = chain_book()
        self.check_alike(nothing, chain_book(below=True))
        self.check_alike(nothing ** 3, nothing)
        self.check_alike(nothing, chain_book("f(?x) -> f(?x)", "g(h(?x)) -> g(h(?x))"))
        self.check_parted_at(nothing, chain_book("f(g(h(?x))) -> f(h(g(?x)))"), "f(g(h(a)))")
        self.check_parted_at(nothing, chain_book("a -> a", "f(f(?x)) -> f(f(?x))", "h(?x) -> g(?x)"), "h(a)")
        self.check_parted_at(nothing, chain_book("a -> f(a)"), "a")

    def test_a_language_without_other_labels(self):
        language = Language([("one", 0)])
        one = Book.read(language, "above\none -> keep(one)")
        self.check_parted_at(one, Book(language, []), "one")
        self.check_alike(one, one ** 2)

    def test_runs_of_unlike_lengths(self):
        up = chain_book("f(?x) -> f(f(?x))")
        down = chain_book("f(f(?x)) -> f(?x)")
        self.check_alike(up * down, chain_book())
        self.check_parted_at(down * up, chain_book(), "f(a)")
        swap = chain_book("f(?x) -> g(?x)", "g(?x) -> f(?x)")
        self.check_alike(swap ** 3, swap)
        self.check_alike(swap ** 2, chain_book())
        self.check_alike(swap ** 3, Row([swap]))
        self.check_parted_at(swap ** 2, swap, "f(a)")

    def test_delays(self):
        """What one run writes ahead of a call, the other one writes behind it."""
        for below in (False, True):
            one = chain_book("f(?x) -> g(g(?x))", "h(a) -> a", below=below)
            shifted = chain_book("f(?x) -> g(?x)", below=below)
            grown = chain_book("g(?x) -> g(g(?x))", "h(a) -> a", below=below)
            self.check_parted_at(one, shifted * grown, "g(a)")
            self.check_alike(chain_book("f(f(?x)) -> f(f(?x))", "g(g(?x)) -> g(?x)", below=below),
                             chain_book("g(g(?x)) -> g(?x)", "f(f(?x)) -> f(f(?x))", below=not below))

    def test_least_trees_that_are_great(self):
        one = fork_book("p(f(?x), f(?y)) -> p(?y, f(?x))\n  x kind a p\n  x bar a f\n  y kind keep p", below=True)
        other = fork_book("p(f(?x), f(?y)) -> p(?y, f(?x))\n  x kind a p\n  x bar a f\n  y kind keep p\n  y bar f")
        found = parting(one, other)
        self.assertEqual(tree_text(found.tree), "p(f(p(keep(a), keep(a))), f(p(a, f(a))))")
        self.assertEqual(found.results, (one(found.tree), other(found.tree)))
        thin = Language([("a", 0), ("g", 1)])
        one = Book.read(thin, "below\ng(g(g(?x))) -> ?x\n  x bar a g")
        other = Book.read(thin, "above\ng(g(g(?x))) -> ?x\n  x bar a")
        self.check_parted_at(one, other, "g(g(g(g(g(g(keep(a)))))))")

    def test_least_trees_of_some_nodes(self):
        small = Language([("a", 0), ("f", 1), ("g", 1)])
        one = Book.read(small, "above\ng(g(g(?x))) -> ?x\n  x bar f")
        other = Book.read(small, "below\ng(g(g(?x))) -> ?x\n  x bar f g")
        self.check_parted_at(one, other, "g(g(g(g(g(g(a))))))")
        one = Book.read(small, "above\nf(g(f(?x))) -> f(a)\n  x kind f g\n  x bar a")
        other = Book.read(small, "below\nf(g(f(?x))) -> f(a)\n  x kind f g\n  x bar a")
        self.check_parted_at(one, other, "f(g(f(g(f(f(keep(a)))))))")
        one = Book.read(small, "above\nf(f(f(?x))) -> g(?x)")
        other = Book.read(small, "below\nf(f(f(?x))) -> g(?x)")
        self.check_parted_at(one, other, "f(f(f(f(a))))")
        self.check_parted_at(one ** 2, other ** 2, "f(f(f(f(a))))")

    def test_trees_right_above_one_another(self):
        for one, other in zip(both_ways("f(g(?x)) -> h(?x)"), both_ways("f(g(?y)) -> h(?y)")):
            self.check_alike(one, other)
            for end in (("a",), ("g", ("a",))):
                tree = chain("f", 290, end)
                self.assertEqual(one(tree), other(tree))


class Drawn(Checks):
    def test_rows(self):
        kinds = set()
        for number in range(260):
            drawing = Drawing(number)
            ones, others = drawing.two_rows()
            one, other = Row(ones), Row(others)
            found = parting(one, other)
            kinds.add((found is None, drawing.has_fork, len(ones), len(others)))
            self.assertIs(alike(one, other), found is None)
            self.check_parting(found, one, other, drawing.trees(120))
            if found is None:
                for nodes in range(8, 40):
                    tree = drawing.greater_tree(nodes)
                    self.assertEqual(one(tree), other(tree))
        self.assertGreater(len(kinds), 20)

    def test_books(self):
        kinds = set()
        for number in range(1000, 1200):
            drawing = Drawing(number)
            one, other = drawing.two_books()
            found = parting(one, other)
            kinds.add((found is None, drawing.has_fork, one.below, other.below))
            self.check_parting(found, one, other, drawing.trees(150))
            if found is None:
                for nodes in range(5, 16):
                    tree = drawing.greater_tree(nodes)
                    self.assertEqual(one(tree), other(tree))
            self.assertEqual(alike(Row([one]), other), found is None)
        self.assertEqual(len(kinds), 16)

    def test_results_are_those_of_slow_passes(self):
        for number in range(2000, 2060):
            drawing = Drawing(number)
            ones, others = drawing.two_rows()
            found = parting(Row(ones), Row(others))
            if found is not None:
                self.assertEqual(found.results, (slow_runs(ones, found.tree), slow_runs(others, found.tree)))

    def test_the_least_tree_among_all_lesser_ones(self):
        greatest = 0
        for number in range(3000, 3250):
            drawing = Drawing(number)
            one, other = drawing.two_books()
            found = parting(one, other)
            if found is not None and 5 <= size(found.tree) <= 8 and len(drawing.rows) < 4:
                greatest = max(greatest, size(found.tree))
                for tree in lesser_trees(drawing.language, found.tree):
                    self.assertEqual(one(tree), other(tree), (number, tree))
        self.assertGreaterEqual(greatest, 6)


class Led(Hunt):
    """A search that notes by which joins each pair was led on."""

    def __init__(self, calls):
        super().__init__(calls)
        self.led = {}

    def lead(self, pair, around, join, nodes):
        self.led.setdefault(pair, []).append(join)
        super().lead(pair, around, join, nodes)


class AllPairs(unittest.TestCase):
    """Promise [33]: where two runs are told to be alike, each pair was led on by all that may stand there."""

    def check(self, language, rows):
        calls = Calls(language, rows)
        hunt = Led(calls)
        calls_first = [calls.call(run, tuple([() for _ in books])) for run, books in enumerate(rows)]
        if hunt.least_parting((None, 0, *calls_first)) is not None:
            return 0
        growth = calls.growth
        self.assertTrue(growth.is_over())
        self.assertEqual(set(hunt.led), set(hunt.looked))
        for pair, joins in hunt.led.items():
            use, at, one, other = pair
            wanted = [join for join, (_, _, number) in enumerate(growth.joins)
                      if use is None or growth.stage.view(use, number) == growth.stage.view(use, growth.numbers[at])]
            self.assertEqual(joins, wanted)
            self.assertEqual(growth.joins[wanted[0]][1], growth.joins[growth.births[at]][1])
        return len(hunt.led)

    def test_drawn(self):
        many = 0
        for number in range(3500, 3600):
            drawing = Drawing(number)
            ones, others = drawing.two_rows()
            many += self.check(drawing.language, [ones, others])
            one = drawing.two_books()[0]
            many += self.check(drawing.language, [[one], [one]])
        self.assertGreater(many, 500)

    def test_a_run_that_begins_with_the_other_one(self):
        """What passes of a part of the books make is told alike by two runs and by one."""
        told = set()
        for number in range(3600, 3700):
            drawing = Drawing(number)
            ones, others = drawing.two_rows()
            whole, part = (ones + others)[:3], (ones + others)[:1]
            found = parting(Row(whole), Row(part))
            told.add(found is None)
            calls = Calls(drawing.language, [whole, part])
            first = [calls.call(run, tuple([() for _ in books])) for run, books in enumerate([whole, part])]
            tree = Hunt(calls).least_parting((None, 0, *first))
            self.assertEqual(tree, None if found is None else found.tree)
        self.assertEqual(told, {False, True})


class Orders(Checks):
    def test_named(self):
        renaming = chain_book("f(?x) -> g(?x)")
        self.assertIs(any_order(renaming, chain_book("h(?x) -> ?x")), True)
        self.assertIs(any_order(renaming, chain_book("g(?x) -> h(?x)")), False)
        found = order_parting(renaming, chain_book("g(?x) -> h(?x)"))
        self.assertEqual(found.tree, ("f", ("a",)))
        self.assertEqual(found.results, (("h", ("a",)), ("g", ("a",))))
        self.assertIsNone(order_parting(renaming, chain_book("h(?x) -> ?x")))

    def test_a_book_and_itself(self):
        for book in both_ways("f(g(?x)) -> g(f(?x))", "h(?x) -> ?x"):
            self.assertIs(any_order(book, book), True)
            self.assertIs(any_order(book, book ** 2), True)
            self.assertIsNone(order_parting(book ** 2, book))
            self.assertIs(any_order(book, chain_book()), True)

    def test_rows_of_two_books_and_one(self):
        up = chain_book("f(?x) -> g(?x)")
        down = chain_book("g(?x) -> f(?x)")
        found = order_parting(up * down, up)
        self.assertEqual((found.tree, found.results), (("f", ("a",)), (("g", ("a",)), ("f", ("a",)))))
        other = chain_book("h(?x) -> h(h(?x))")
        self.assertIsNone(order_parting(up * down, other))
        self.assertIs(any_order(other, up * down), True)

    def test_the_least_tree_is_the_first_one(self):
        """Rules that get in each other's way only where three labels stand above one another."""
        one = chain_book("f(g(?x)) -> h(?x)")
        other = chain_book("g(h(?x)) -> f(?x)")
        found = order_parting(one, other)
        self.assertEqual(tree_text(found.tree), "f(g(h(a)))")
        self.assertEqual([tree_text(made) for made in found.results], ["h(h(a))", "f(f(a))"])

    def test_drawn(self):
        told = set()
        for number in range(4000, 4160):
            drawing = Drawing(number)
            ones, others = drawing.two_runs()
            one = Row(ones) if len(ones) > 1 else ones[0]
            other = Row(others) if len(others) > 1 else others[0]
            found = order_parting(one, other)
            told.add((found is None, len(ones), len(others)))
            self.assertIs(any_order(one, other), found is None)
            self.assertIs(alike(one * other, other * one), found is None)
            same = parting(one * other, other * one)
            self.assertEqual(found is None, same is None)
            if found is not None:
                self.assertEqual((found.tree, found.results), (same.tree, same.results))
                turned = order_parting(other, one)
                self.assertEqual((turned.tree, turned.results), (found.tree, found.results[::-1]))
            self.check_parting(found, one * other, other * one, drawing.trees(100))
        self.assertEqual(len(told), 6)


class Undoing(Checks):
    def test_renaming(self):
        swap = chain_book("f(?x) -> g(?x)", "g(?x) -> f(?x)")
        self.assertIs(undoes(swap, swap), True)
        one_way = chain_book("f(?x) -> g(?x)")
        self.assertIs(undoes(one_way, one_way), False)
        self.assertIs(undoes(chain_book("g(?x) -> f(?x)"), one_way), False)
        turn = chain_book("f(?x) -> g(?x)", "g(?x) -> h(?x)", "h(?x) -> f(?x)")
        self.assertIs(undoes(turn, turn), False)
        self.assertIs(undoes(turn, turn ** 2), True)
        self.assertIs(undoes(turn ** 2, turn), True)
        self.assertIs(undoes(turn, turn * swap), False)

    def test_exchanging_children(self):
        for below in (False, True):
            swap = fork_book("p(?x, ?y) -> p(?y, ?x)", below=below)
            self.assertIs(undoes(swap, swap), True)
            self.assertIs(undoes(swap, fork_book("p(?x, ?y) -> p(?x, ?y)")), False)
            some = fork_book("p(f(?x), ?y) -> p(?y, f(?x))", below=below)
            self.assertIs(undoes(some, some), False)

    def test_dropping(self):
        up = chain_book("f(?x) -> f(f(?x))")
        down = chain_book("f(f(?x)) -> f(?x)")
        self.assertIs(undoes(down, up), True)
        self.assertIs(undoes(up, down), False)
        drops = chain_book("f(g(?x)) -> f(?x)")
        for book in (up, down, drops, chain_book()):
            self.assertIs(undoes(book, drops), False)
        self.assertIs(undoes(drops, chain_book("f(?x) -> f(g(?x))")), True)

    def test_nothing_undoes_nothing(self):
        nothing = chain_book()
        self.assertIs(undoes(nothing, nothing), True)
        self.assertIs(undoes(nothing ** 2, chain_book("f(?x) -> f(?x)", below=True)), True)
        self.assertIs(undoes(nothing, chain_book("f(g(?x)) -> f(?x)")), False)

    def test_keep_hinders(self):
        self.assertIs(undoes(chain_book("g(?x) -> f(?x)"), chain_book("f(?x) -> keep(?x)")), False)
        self.assertIs(undoes(chain_book("a -> a"), chain_book("a -> keep(a)")), False)

    def test_drawn(self):
        told = set()
        for number in range(5000, 5150):
            drawing = Drawing(number)
            ones, others = drawing.two_runs()
            one = Row(ones) if len(ones) > 1 else ones[0]
            other = Row(others) if len(others) > 1 else others[0]
            found = undoes(one, other)
            told.add(found)
            nothing = Book(drawing.language, [])
            self.assertIs(found, alike(other * one, nothing))
            trees = drawing.trees(200)
            if found:
                trees += [drawing.greater_tree(nodes) for nodes in range(8, 25)]
            self.assertEqual(found, all([(other * one)(tree) == tree for tree in trees]), number)
        self.assertEqual(told, {False, True})


class Again(Checks):
    def test_second_is_none(self):
        for book in both_ways("f(g(?x)) -> h(?x)") + both_ways("f(f(?x)) -> ?x"):
            self.assertIsNone(second(book))
            self.assertIs(same_again(book), True)
        self.assertIs(same_again(chain_book("f(?x) -> g(?x)")), True)
        self.assertIs(same_again(chain_book()), True)

    def test_what_stood_there_is_written(self):
        for book in both_ways("f(?x) -> f(?x)", "g(g(?x)) -> g(g(?x))"):
            self.assertIs(same_again(book), True)
        # A second pass puts the end anew.
        self.assertIs(same_again(chain_book("f(?x) -> f(a)")), True)
        self.assertIs(same_again(fork_book("p(?x, ?y) -> p(?x, ?x)")), True)
        self.assertIs(same_again(fork_book("p(?x, ?y) -> p(?x, ?x)", below=True)), True)
        self.assertIs(same_again(fork_book("p(?x, ?y) -> p(f(?x), f(?x))")), False)

    def test_something_else_is_written(self):
        for book in both_ways("f(?x) -> f(f(?x))") + both_ways("f(?x) -> g(?x)", "g(?x) -> f(?x)"):
            self.assertIs(same_again(book), False)
        self.assertIs(same_again(chain_book("f(g(?x)) -> g(f(?x))")), False)
        self.assertIs(same_again(fork_book("f(?x) -> p(?x, ?x)", "p(?x, ?y) -> f(?x)")), False)
        self.assertIs(same_again(fork_book("p(?x, ?y) -> p(?y, ?x)")), False)

    def test_holes_twice(self):
        self.assertIs(same_again(fork_book("f(?x) -> p(?x, ?x)")), True)
        self.assertIs(same_again(fork_book("p(f(?x), ?y) -> p(?x, ?x)")), False)
        self.assertIs(same_again(fork_book("p(f(?x), ?y) -> p(?x, ?x)\n  x kind a")), True)

    def test_drawn(self):
        told = set()
        for number in range(6000, 6200):
            drawing = Drawing(number)
            book = drawing.book(drawing.limits()[1])
            found = same_again(book)
            told.add(found)
            trees = drawing.trees(200) + [drawing.greater_tree(nodes) for nodes in range(6, 12)]
            if found:
                self.assertTrue(all([book(book(tree)) == book(tree) for tree in trees]))
            elif len(drawing.rows) < 4:
                # Hardly any of these books needs a tree with more than eight nodes.
                more = [tree for nodes in range(1, 8) for tree in drawing.language.trees(nodes)]
                self.assertFalse(all([book(book(tree)) == book(tree) for tree in more]), number)
        self.assertEqual(told, {False, True})


class Languages(unittest.TestCase):
    def others(self):
        """Languages that are unlike CHAIN by a label, by a number, by the order, by a label less."""
        return [
            Language([("b", 0), ("f", 1), ("g", 1), ("h", 1)]),
            Language([("a", 0), ("f", 1), ("g", 1), ("h", 2)]),
            Language([("a", 0), ("g", 1), ("f", 1), ("h", 1)]),
            Language([("a", 0), ("f", 1), ("g", 1)]),
        ]

    def test_unlike_languages(self):
        book = chain_book("f(?x) -> ?x")
        for language in self.others():
            other = Book(language, [])
            for function in (parting, alike, order_parting, any_order, undoes):
                for one, two in [(book, other), (other, book), (book ** 2, other), (other, book ** 2)]:
                    with self.assertRaises(UnlikeLanguages) as caught:
                        function(one, two)
                    self.assertEqual(vars(caught.exception), {})
                    self.assertIsInstance(caught.exception, RunError)

    def test_equal_languages_that_were_made_apart(self):
        book = chain_book("f(?x) -> g(?x)")
        other = Book(Language([["a", 0], ["f", 1], ["g", 1], ["h", 1]]), [Rule(("f", "y"), ("g", "y"))], True)
        self.assertIsNone(parting(book, other))
        self.assertIs(alike(book, other), True)
        self.assertIsNone(order_parting(book, other))
        self.assertIs(any_order(book, other), True)
        self.assertIs(undoes(book, other), False)


class Kinds(unittest.TestCase):
    def test_attributes(self):
        found = parting(chain_book("f(?x) -> ?x"), chain_book())
        self.assertEqual(set(vars(found)), {"tree", "results"})
        self.assertEqual((found.tree, found.results), (read_tree("f(a)"), (("a",), ("f", ("a",)))))

    def test_the_runs_stay_as_they_are(self):
        one, other = chain_book("f(?x) -> ?x"), chain_book("f(g(?x)) -> ?x")
        texts = (one.text(), other.text())
        for function in (parting, alike, order_parting, any_order, undoes):
            function(one, other)
        same_again(one)
        self.assertEqual((one.text(), other.text()), texts)


if __name__ == "__main__":
    unittest.main()
