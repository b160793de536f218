"""Promises [4], [24], [25], [26], [27], [28] and [29]: questions about all trees."""

import time
import unittest

from secondruns.asking import Finding, acts, doubling, enough, losing, second
from secondruns.books import Book, Row
from secondruns.errors import BadCount, NoBook, NoRule
from secondruns.languages import Language
from secondruns.rules import Rule, read_shape
from secondruns.trees import read_tree, size
from tests.drawn import CHAINS, FORKS, Drawing
from tests.samples import is_integer, objects, only_tuples
from tests.slow import label_spots, slow_done, slow_pass, slow_runs

L = Language([("one", 0), ("neg", 1), ("add", 2)])
MANY = 150


def book(lines, below=False, language=L):
    """A book without kinds and bars."""
    return Book(language, [Rule(*map(read_shape, line.split(" -> "))) for line in lines], below)


def is_done(books, tree, index):
    """Whether a rule of the last of these books is done."""
    return index in [rule for _, rule in slow_done(books[-1], slow_runs(books[:-1], tree))]


def first(trees, holds):
    return next((tree for tree in trees if holds(tree)), None)


def slow_why(made, origins, place, index):
    """The word of [26], from the origins of the last pass before."""
    spots = [place + spot for spot in label_spots(made.rules[index].left)]
    if any(origins[spot][0] == "new" for spot in spots):
        return "written"
    for spot in spots:
        for k in range(2):
            if spot + (k,) in spots and origins[spot + (k,)][1] != origins[spot][1] + (k,):
                return "joined"
    return "freed"


class Acts(unittest.TestCase):
    def test_words(self):
        lines = ["neg(neg(?x)) -> ?x", "neg(neg(neg(?x))) -> ?x", "add(one, ?x) -> one"]
        above, below = book(lines), book(lines, True)
        self.assertEqual(acts(above, 0, 0), read_tree("neg(neg(one))"))
        self.assertIsNone(acts(above, 0, 1))
        self.assertEqual(acts(above, 0, 2), read_tree("add(one, one)"))
        self.assertIsNone(acts(below, 0, 1))
        self.assertEqual(acts(book(lines[1:2] + lines[:1]), 0, 1), read_tree("neg(neg(one))"))
        self.assertEqual(acts(above * book(["one -> neg(one)"]), 1, 0), ("one",))
        self.assertEqual(acts(book(["neg(one) -> one"]) * above, 1, 0), read_tree("neg(neg(neg(one)))"))
        self.assertEqual(acts(runs=above, at=0, index=0), read_tree("neg(neg(one))"))

    def test_a_fit_in_a_content_that_is_dropped_is_done(self):
        dropping = book(["add(?x, ?y) -> ?x"])
        writing = book(["one -> neg(one)"])
        for below in (False, True):
            reading = book(["neg(?x) -> neg(neg(?x))", "one -> one"], below)
            self.assertEqual(acts(writing * reading, 1, 1), ("one",))
            lost = book(["neg(?x) -> keep(keep(?x))", "add(?x, ?y) -> ?x", "one -> one"], below)
            self.assertEqual(acts(book(["one -> add(keep(one), one)"]) * lost, 1, 2), ("one",))
            # What the first book drops is not there any more.
            self.assertIsNone(acts(dropping * book(["add(?x, ?y) -> ?x"], below), 1, 0))

    def test_what_stands_above_counts_from_above(self):
        """Each g that is written stands beneath an f, which the second book takes first, if it goes from above."""
        language = Language([("a", 0), ("f", 1), ("g", 1)])
        one = book(["a -> f(g(a))"], False, language)
        other = book(["f(g(?x)) -> ?x", "g(a) -> a"], False, language)
        self.assertEqual(acts(one * other, 1, 0), ("a",))
        self.assertIsNone(acts(one * other, 1, 1))
        self.assertEqual(acts(one * Book(language, other.rules, True), 1, 1), ("a",))
        self.assertEqual(acts(one * Book(language, other.rules, True), 1, 0), read_tree("f(g(a))"))

    def test_against_all_small_trees(self):
        never = 0
        for number in range(110):
            drawing = Drawing(number)
            trees = drawing.trees(MANY)
            for many in (1, 2, 3):
                books = drawing.books(many)
                runs = books[0] if many == 1 and number % 2 else Row(books)
                for k, made in enumerate(books):
                    for index in range(len(made)):
                        found = acts(runs, k, index)
                        wanted = first(trees, lambda tree: is_done(books[:k + 1], tree, index))
                        never += found is None
                        self.check_least(drawing.language, trees, found, wanted)
                        if found is not None:
                            self.assertTrue(is_done(books[:k + 1], found, index))
                            # [29]: a least tree of a first pass has the fit at its top.
                            if k == 0:
                                self.assertIn(((), index), slow_done(made, found))
        self.assertGreater(never, 30)

    def check_least(self, language, trees, found, wanted):
        if wanted is not None:
            self.assertEqual(found, wanted)
            self.assertTrue(only_tuples(found))
        elif found is not None:
            self.assertTrue(language.is_tree(found))
            self.assertTrue(language.is_less(trees[-1], found))

    def test_no_book_and_no_rule(self):
        made = book(["neg(?x) -> ?x", "one -> one"])
        for runs, books in ((made, 1), (Row([made]), 1), (made ** 2, 2), (made ** 3, 3)):
            for thing in objects() + [3, made]:
                if not (is_integer(thing) and 0 <= thing < books):
                    for index in (0, 7, None):
                        with self.assertRaises(NoBook) as caught:
                            acts(runs, thing, index)
                        self.assertIs(caught.exception.at, thing)
                if not (is_integer(thing) and 0 <= thing < 2):
                    with self.assertRaises(NoRule) as caught:
                        acts(runs, books - 1, thing)
                    self.assertIs(caught.exception.index, thing)
        for index in (0, 1):
            with self.assertRaises(NoRule):
                acts(Book(L, []), 0, index)
            with self.assertRaises(NoRule):
                acts(made * Book(L, []), 1, index)


class Second(unittest.TestCase):
    def test_words(self):
        lines = ["neg(?x) -> neg(neg(?x))"]
        for below in (False, True):
            found = second(book(lines, below))
            self.assertIs(type(found), Finding)
            self.assertEqual((found.tree, found.came, found.place, found.rule, found.why), (
                ("neg", ("one",)), ("neg", ("neg", ("one",))), (), 0, "written"))
            self.assertLessEqual({"tree", "came", "place", "rule", "why"}, set(vars(found)))
            self.assertEqual(second(book=book(lines, below), passes=1).tree, found.tree)
            found = second(book(lines, below), 2)
            self.assertEqual((found.tree, found.came), (("neg", ("one",)), read_tree("neg(neg(neg(neg(one))))")))

    def test_joined(self):
        made = book(["neg(neg(?x)) -> ?x", "add(?x, one) -> ?x"])
        found = second(made)
        self.assertEqual(found.tree, read_tree("neg(add(neg(one), one))"))
        self.assertEqual((found.came, found.place, found.rule, found.why), (
            read_tree("neg(neg(one))"), (), 0, "joined"))
        self.assertEqual(second(book(made.text().split("\n")[1:], True)).why, "joined")

    def test_freed(self):
        barred = Book(L, [Rule(("neg", "x"), "x", {}, {"x": ["add"]}), Rule(("add", "x", "y"), ("one",))])
        found = second(barred)
        self.assertEqual((found.tree, found.came, found.place, found.rule, found.why), (
            read_tree("neg(add(one, one))"), read_tree("neg(one)"), (), 0, "freed"))
        kind = Book(L, [Rule(("neg", "x"), ("keep", "x"), {"x": ["one"]}), Rule(("add", "x", "y"), "x")])
        found = second(kind)
        self.assertEqual((found.tree, found.why), (read_tree("neg(add(one, one))"), "freed"))

    def test_written_goes_ahead_of_joined(self):
        language = Language([("a", 0), ("f", 1), ("g", 1)])
        made = book(["f(g(?x)) -> ?x", "a -> g(a)"], False, language)
        found = second(made)
        self.assertEqual((found.tree, found.why), (("a",), "written"))

    def test_against_all_small_trees(self):
        words = {}
        for number in range(260):
            drawing = Drawing(number, (CHAINS + FORKS)[number % 8])
            trees = drawing.trees(MANY)
            for passes in (1, 2):
                labels = {(False, 1): 4, (False, 2): 3, (True, 1): 3, (True, 2): 2}[(drawing.has_fork, passes)]
                made = drawing.book(labels)
                found = second(made, passes)
                wanted = first(trees, lambda tree: slow_done(made, slow_runs([made] * passes, tree)))
                if found is None:
                    self.assertIsNone(wanted)
                    words[passes] = words.get(passes, 0) + 1
                    continue
                if wanted is not None:
                    self.assertEqual(found.tree, wanted)
                else:
                    self.assertTrue(drawing.language.is_less(trees[-1], found.tree))
                if size(found.tree) < 20:
                    self.check(made, passes, found)
                words[found.why] = words.get(found.why, 0) + 1
        for word in ("written", "joined", "freed", 1, 2):
            self.assertGreater(words[word], 4, words)

    def check(self, made, passes, found):
        before = slow_runs([made] * (passes - 1), found.tree)
        came, origins = slow_pass(made, before)
        self.assertEqual(found.came, came)
        self.assertEqual((found.place, found.rule), slow_done(made, came)[0])
        self.assertEqual(found.why, slow_why(made, origins, found.place, found.rule))
        self.assertTrue(only_tuples(found.tree) and only_tuples(found.came))
        self.assertIs(type(found.place), tuple)
        self.assertIs(type(found.rule), int)

    def test_never(self):
        for lines in (["neg(neg(?x)) -> ?x"], ["neg(?x) -> keep(neg(?x))"], ["add(one, ?x) -> neg(?x)"], [],
                      ["neg(?x) -> ?x"], ["add(?x, ?y) -> one", "neg(?x) -> one"]):
            for below in (False, True):
                if lines[:1] == ["neg(neg(?x)) -> ?x"] and below:
                    continue
                for passes in (1, 2):
                    self.assertIsNone(second(book(lines, below), passes), lines)
        self.assertEqual(second(book(["neg(neg(?x)) -> ?x"], True)), None)

    def test_a_least_tree_that_is_not_small(self):
        """No tree of less than 53 nodes will do here: none is found by looking at small ones."""
        language = Language([("a", 0), ("p", 2)])
        both = {"x": ["a"], "y": ["a"]}
        made = Book(language, [Rule(("p", "x", "y"), ("a",), {"x": ["keep"]}, both),
                               Rule(("p", "x", "y"), "y", {"y": ["keep"]}, both)])
        found = second(made, 2)
        self.assertEqual(size(found.tree), 53)
        self.assertEqual(found.came, slow_runs([made, made], found.tree))
        self.assertEqual((found.place, found.rule), slow_done(made, found.came)[0])
        self.assertEqual(found.why, "freed")

    def test_bad_count(self):
        for made in (book(["neg(?x) -> ?x"]), Book(L, [])):
            for thing in objects() + [3, made]:
                if not (is_integer(thing) and 1 <= thing <= 2):
                    for call in (lambda: second(made, thing), lambda: second(book=made, passes=thing)):
                        with self.assertRaises(BadCount) as caught:
                            call()
                        self.assertIs(caught.exception.count, thing)


class Enough(unittest.TestCase):
    def test_words(self):
        language = Language([("a", 0), ("b", 0), ("c", 0), ("f", 1)])
        for below in (False, True):
            self.assertEqual(enough(book([], below)), 0)
            self.assertEqual(enough(Book(L, [Rule(("neg", "x"), "x", {"x": []})], below)), 0)
            self.assertEqual(enough(Book(L, [Rule(("neg", "x"), "x", {"x": ["one"]}, {"x": ["one"]})], below)), 0)
            self.assertEqual(enough(book(["neg(?x) -> ?x"], below)), 1)
            self.assertEqual(enough(book(["a -> b", "b -> c"], below, language)), 2)
            self.assertIsNone(enough(book(["a -> b", "b -> c", "c -> f(a)"], below, language)))
            self.assertIsNone(enough(book(["one -> one"], below)))
            self.assertIsNone(enough(book(["neg(?x) -> neg(neg(?x))"], below)))
            self.assertIsNone(enough(book(["a -> b", "b -> c", "c -> keep(c)"], below, language)))
        self.assertEqual(enough(book=book(["neg(?x) -> ?x"])), 1)

    def test_against_second_and_all_small_trees(self):
        told = {}
        for number in range(150):
            drawing = Drawing(number)
            made = drawing.book(2 if drawing.has_fork else 3)
            found = enough(made)
            told[found] = told.get(found, 0) + 1
            trees = drawing.trees(MANY)
            acting = [passes for passes in range(3)
                      if first(trees, lambda tree: slow_done(made, slow_runs([made] * passes, tree))) is not None]
            if found is None:
                self.assertIsNotNone(second(made, 2))
            else:
                self.assertIn(len(acting), (found, found - 1))
                self.assertEqual(found == 0, all(acts(made, 0, index) is None for index in range(len(made))))
                if found < 2:
                    self.assertIsNone(second(made))
                    self.assertIsNone(second(made, 2))
                else:
                    self.assertIsNotNone(second(made))
                    self.assertIsNone(second(made, 2))
        for found in (0, 1, 2, None):
            self.assertGreater(told[found], 1, told)


class Holes(unittest.TestCase):
    def test_words(self):
        for below in (False, True):
            made = book(["add(?z, ?a) -> one", "neg(?x) -> add(?x, neg(?x))"], below)
            self.assertEqual(losing(made), [(0, "a"), (0, "z")])
            self.assertEqual(doubling(made), [(1, "x")])
            self.assertEqual(losing(book=made), losing(made))
            self.assertEqual(doubling(book=made), doubling(made))
            self.assertEqual((losing(Book(L, [])), doubling(Book(L, []))), ([], []))

    def test_rules_that_are_never_done_do_not_count(self):
        lines = ["neg(?x) -> ?x", "neg(neg(?x)) -> one", "neg(neg(?x)) -> add(?x, ?x)"]
        self.assertEqual((losing(book(lines)), doubling(book(lines))), ([], []))
        self.assertEqual((losing(book(lines[1:])), doubling(book(lines[1:]))), ([(0, "x")], []))
        self.assertEqual((losing(book(lines[:0:-1])), doubling(book(lines[:0:-1]))), ([], [(0, "x")]))
        hindered = Book(L, [Rule(("add", "x", "y"), "y", {"x": []}), Rule(("neg", "x"), ("add", "x", "x"), {"x": []})])
        self.assertEqual((losing(hindered), doubling(hindered)), ([], []))

    def test_drawn_books(self):
        for number in range(150):
            made = Drawing(number).book(4)
            lost, doubled = losing(made), doubling(made)
            acting = [index for index in range(len(made)) if acts(made, 0, index) is not None]
            many = {(index, hole): repr(made.rules[index].right).count(f"'{hole}'")
                    for index in acting for hole in made.rules[index].holes()}
            self.assertEqual(lost, sorted(pair for pair in many if many[pair] == 0))
            self.assertEqual(doubled, sorted(pair for pair in many if many[pair] > 1))
            for found in (lost, doubled):
                self.assertIs(type(found), list)
                self.assertTrue(all(type(pair) is tuple for pair in found))


class Great(unittest.TestCase):
    def test_thousands_of_questions(self):
        start = time.perf_counter()
        for number in range(1000):
            drawing = Drawing(number)
            made = drawing.book(2)
            second(made)
            enough(made)
            losing(made)
            doubling(made)
            for index in range(len(made)):
                acts(made ** 2, 1, index)
        self.assertLess(time.perf_counter() - start, 20)

    def test_great_books(self):
        fork = Language([("a", 0), ("b", 0), ("f", 1), ("p", 2)])
        rules = [Rule(("p", ("f", "x"), "y"), ("f", ("f", "y")), {"x": ["b", "keep", "p"], "y": ["a", "p"]},
                      {"y": ["a", "b"]}),
                 Rule(("p", "x", "y"), "x", {"y": ["a", "b", "keep", "p"]}),
                 Rule(("f", "x"), ("p", "x", ("keep", "x")), {}, {"x": ["a"]})]
        start = time.perf_counter()
        for below in (False, True):
            made = Book(fork, rules, below)
            for passes in (1, 2):
                second(made, passes)
            enough(made)
            for k in range(3):
                for index in range(3):
                    acts(made ** 3, k, index)
        self.assertLess(time.perf_counter() - start, 10)


if __name__ == "__main__":
    unittest.main()
