"""Promises [4] and [17]: books."""

import unittest

from secondruns.books import Book, Row
from secondruns.errors import BadBook, BadFlag, UnlikeLanguages, UnlikeWays
from secondruns.languages import Language
from secondruns.rules import Rule
from tests.samples import objects

L = Language([("one", 0), ("neg", 1), ("add", 2)])
GOOD = Rule(("neg", ("neg", "x")), "x")
OTHER = Rule(("add", "x", "y"), ("keep", ("add", "y", "x")), {"x": ["keep", "one"]}, {"y": ["keep", "add"]})


class Wrong(unittest.TestCase):
    def bad(self, index, word, rules, below=False):
        for call in (lambda: Book(L, rules, below), lambda: Book(language=L, rules=rules, below=below)):
            with self.assertRaises(BadBook) as caught:
                call()
            self.assertEqual((caught.exception.index, caught.exception.word), (index, word), rules)

    def test_rules_that_are_no_list(self):
        for thing in objects() + [GOOD, {0: GOOD}, L]:
            if not isinstance(thing, (list, tuple)):
                self.bad(0, "rules", thing)
                self.bad(0, "rules", thing, 0)

    def test_items_that_are_no_rule(self):
        for thing in objects() + [[GOOD], (GOOD,), Book(L, [GOOD]), L, ("neg", "x"), "neg(?x) -> ?x"]:
            self.bad(0, "rule", [thing])
            self.bad(1, "rule", [GOOD, thing])
            self.bad(2, "rule", (GOOD, OTHER, thing, 0))

    def test_labels(self):
        for rule in (Rule(("two",), ("one",)), Rule(("neg", ("two",)), ("one",)), Rule(("one",), ("two",)),
                     Rule(("neg", "x"), ("neg", ("neg", ("sub", "x", "x")))), Rule(("neg", "x"), "x", {"x": ["two"]}),
                     Rule(("neg", "x"), "x", {"x": ["one", "neg", "two"]}), Rule(("add", "x", "y"), "x", {"y": ["a"]}),
                     Rule(("neg", "x"), "x", None, {"x": ["two"]}),
                     Rule(("add", "x", "y"), "x", None, {"x": ["one"], "y": ["one", "a"]})):
            self.bad(0, "label", [rule])
            self.bad(1, "label", (GOOD, rule))
            self.bad(1, "label", [OTHER, rule, 0], 0)

    def test_children(self):
        for rule in (Rule(("neg",), ("one",)), Rule(("neg", "x", "y"), "x"), Rule(("add", "x"), "x"),
                     Rule(("one", "x"), "x"), Rule(("neg", ("add", "x", "y", "z")), "x"), Rule(("neg", "x"), ("one", "x")),
                     Rule(("neg", "x"), ("add", "x")), Rule(("neg", "x"), ("neg", ("neg",))),
                     Rule(("neg", "x"), ("keep", "x", "x")), Rule(("neg", "x"), ("neg", ("keep",)))):
            self.bad(0, "children", [rule])
            self.bad(2, "children", [GOOD, OTHER, rule], None)

    def test_the_first_rule_and_its_first_word(self):
        self.bad(0, "label", [Rule(("neg", "x", "y"), ("two",))])
        self.bad(0, "label", [Rule(("neg", "x", "y"), "x", {}, {"y": ["two"]})])
        self.bad(0, "children", [Rule(("neg", "x", "y"), "x"), Rule(("two",), ("one",)), 0])
        self.bad(0, "label", [Rule(("two",), ("one",)), Rule(("neg",), ("one",)), 0])
        self.bad(1, "rule", [GOOD, 0, Rule(("two",), ("one",))], 0)

    def test_holes_are_no_labels(self):
        for hole in ("two", "keep", "neg", "add"):
            self.assertEqual(len(Book(L, [Rule(("neg", hole), hole)])), 1)

    def test_bad_flag(self):
        for thing in objects() + [L, GOOD]:
            if not isinstance(thing, bool):
                for rules in ([], [GOOD], (OTHER, GOOD)):
                    for call in (lambda: Book(L, rules, thing), lambda: Book(L, rules, below=thing)):
                        with self.assertRaises(BadFlag) as caught:
                            call()
                        self.assertIs(caught.exception.below, thing)


class Told(unittest.TestCase):
    def test_attributes(self):
        for rules in ([], [GOOD], (GOOD, OTHER), [GOOD, GOOD, GOOD]):
            for below in (False, True):
                book = Book(L, rules, below)
                self.assertEqual(book.language, L)
                self.assertEqual(book.rules, tuple(rules))
                self.assertIs(type(book.rules), tuple)
                self.assertIs(book.below, below)
                self.assertEqual(len(book), len(rules))
                self.assertLessEqual({"language", "rules", "below"}, set(vars(book)))
        self.assertIs(Book(L, []).below, False)

    def test_equality(self):
        again = Language([["one", 0], ["neg", 1], ["add", 2]])
        self.assertIs(Book(L, [GOOD, OTHER]) == Book(again, (Rule(("neg", ("neg", "x")), "x"), OTHER), False), True)
        self.assertIs(Book(L, [GOOD]) != Book(again, (GOOD,)), False)
        books = [Book(L, []), Book(L, [], True), Book(L, [GOOD]), Book(L, [GOOD], True), Book(L, [OTHER]),
                 Book(L, [GOOD, OTHER]), Book(L, [OTHER, GOOD]), Book(L, [GOOD, GOOD]),
                 Book(Language([("one", 0), ("neg", 1)]), [GOOD]),
                 Book(Language([("neg", 1), ("one", 0), ("add", 2)]), [GOOD])]
        for n, one in enumerate(books):
            for k, other in enumerate(books):
                self.assertIs(one == other, n == k)
                self.assertIs(one != other, n != k)
            for thing in objects() + [L, GOOD, [GOOD], Row([one])]:
                self.assertIs(one == thing, False)

    def test_sum(self):
        for below in (False, True):
            one, other = Book(L, [GOOD, OTHER], below), Book(Language(L.rows), [OTHER], below)
            self.assertEqual(one + other, Book(L, [GOOD, OTHER, OTHER], below))
            self.assertEqual(other + one, Book(L, [OTHER, GOOD, OTHER], below))
            self.assertEqual(one + Book(L, [], below), one)
            self.assertEqual((one + other).rules, (GOOD, OTHER, OTHER))
            self.assertIs(type(one + other), Book)
            self.assertEqual((len(one), len(other)), (2, 1))

    def test_sums_of_unlike_books(self):
        small = Language([("one", 0), ("neg", 1)])
        for one in (Book(L, [GOOD]), Book(L, [])):
            for below in (False, True):
                with self.assertRaises(UnlikeLanguages):
                    one + Book(small, [GOOD], below)
            with self.assertRaises(UnlikeWays):
                one + Book(L, [GOOD], True)
            with self.assertRaises(UnlikeWays):
                Book(L, [], True) + one

    def test_later_changes_have_no_effect(self):
        rules = [GOOD, OTHER]
        book = Book(L, rules)
        self.assertEqual(rules, [GOOD, OTHER])
        rules.pop()
        rules[0] = None
        self.assertEqual(book, Book(L, (GOOD, OTHER)))


if __name__ == "__main__":
    unittest.main()
