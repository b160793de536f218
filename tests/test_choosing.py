"""Promises [39] and [40]: bars, and lots of books."""

import itertools
import unittest

from secondruns.asking import second
from secondruns.books import Book
from secondruns.choosing import barred, greatest_lots, least_bars
from secondruns.comparing import any_order
from secondruns.errors import BadBar, BadRow
from secondruns.languages import Language
from secondruns.rules import Rule
from tests.drawn import Drawing, is_straight, labels_of
from tests.samples import as_lists, objects

CHAIN = Language([("a", 0), ("f", 1), ("g", 1), ("h", 1)])
FORK = Language([("a", 0), ("f", 1), ("g", 1), ("p", 2)])


def chain_book(*rules, below=False):
    return Book.read(CHAIN, "\n".join([("above", "below")[below], *rules]))


def fork_book(*rules, below=False):
    return Book.read(FORK, "\n".join([("above", "below")[below], *rules]))


def all_bars(book):
    return [(index, hole, label) for index, rule in enumerate(book.rules) for hole in rule.holes()
            for label in book.language.labels]


def slow_least_bars(book, bars):
    """All choices in turn, and of those that do the least ones."""
    doing = [set(choice) for many in range(len(bars) + 1) for choice in itertools.combinations(bars, many)
             if second(barred(book, list(choice))) is None]
    least = [tuple(sorted(choice)) for choice in doing if not any([other < choice for other in doing])]
    return sorted(least, key=lambda choice: (len(choice), choice))


def slow_lots(books):
    numbers = range(len(books))
    lots = [lot for many in numbers for lot in itertools.combinations(numbers, many + 1)
            if all([any_order(books[i], books[j]) for i, j in itertools.combinations(lot, 2)])]
    greatest = [lot for lot in lots if not any([set(lot) < set(other) for other in lots])]
    return sorted(greatest, key=lambda lot: (-len(lot), lot))


class Barred(unittest.TestCase):
    def test_named(self):
        for below in (False, True):
            book = chain_book("f(?x) -> f(f(?x))", "g(?y) -> ?y", below=below)
            made = barred(book, [(0, "x", "f"), (1, "y", "a"), (0, "x", "keep")])
            self.assertEqual(made, chain_book("f(?x) -> f(f(?x))\n  x bar f keep", "g(?y) -> ?y\n  y bar a",
                                              below=below))
            self.assertEqual(made.text().count("bar"), 2)
            self.assertIs(made.below, below)
            self.assertEqual(made.language, CHAIN)

    def test_besides_what_is_barred(self):
        book = fork_book("p(f(?x), ?y) -> ?x\n  x kind a p\n  x bar g\n  y bar f g")
        made = barred(book, [(0, "x", "a"), (0, "y", "p")])
        self.assertEqual(made, fork_book("p(f(?x), ?y) -> ?x\n  x kind a p\n  x bar a g\n  y bar f g p"))
        self.assertEqual(barred(book, [(0, "x", "g")]), book)

    def test_a_bar_twice(self):
        book = chain_book("f(?x) -> ?x")
        once = barred(book, [(0, "x", "g")])
        self.assertEqual(barred(book, [(0, "x", "g"), (0, "x", "g")]), once)
        self.assertEqual(once.rules[0].bar("x"), ("g",))

    def test_no_bars(self):
        book = chain_book("f(?x) -> ?x\n  x kind a", "g(a) -> a")
        self.assertEqual(barred(book, []), book)
        self.assertEqual(barred(chain_book(), ()), chain_book())

    def test_the_book_stays(self):
        book = chain_book("f(?x) -> ?x\n  x bar g")
        text = book.text()
        bars = [[0, "x", "h"]]
        made = barred(book, bars)
        self.assertEqual(bars, [[0, "x", "h"]])
        bars[0][2] = "f"
        bars.append((0, "x", "a"))
        self.assertEqual(book.text(), text)
        self.assertEqual(made.rules[0].bar("x"), ("g", "h"))
        self.assertEqual(book.rules[0].bar("x"), ("g",))

    def test_lists_for_tuples(self):
        book = fork_book("p(?x, ?y) -> ?y")
        bars = [(0, "x", "f"), (0, "y", "keep")]
        for given in (tuple(bars), [list(bar) for bar in bars], tuple([list(bar) for bar in bars])):
            self.assertEqual(barred(book, given), barred(book, bars))
            self.assertEqual(least_bars(book, given), least_bars(book, bars))

    def test_all_labels(self):
        book = chain_book("f(?x) -> f(f(?x))")
        made = barred(book, all_bars(book))
        self.assertEqual(made.rules[0].bar("x"), ("a", "f", "g", "h", "keep"))
        self.assertIsNone(second(made))

    def test_drawn(self):
        """The book that is made so, rule by rule."""
        for number in range(7000, 7100):
            drawing = Drawing(number)
            book = drawing.book(4)
            bars = [drawing.rng.choice(all_bars(book)) for _ in range(3)] if all_bars(book) else []
            rules = []
            for index, rule in enumerate(book.rules):
                kinds = {hole: list(rule.kind(hole)) for hole in rule.holes() if rule.kind(hole) is not None}
                more = {hole: list(rule.bar(hole)) for hole in rule.holes()}
                for n, hole, label in bars:
                    if n == index:
                        more[hole].append(label)
                rules.append(Rule(as_lists(rule.left) if len(rule.left) == 1 else rule.left, rule.right, kinds, more))
            self.assertEqual(barred(book, bars), Book(book.language, rules, book.below))


class Bad(unittest.TestCase):
    def check(self, book, bars, at):
        for function in (barred, least_bars):
            with self.assertRaises(BadBar) as caught:
                function(book, bars)
            self.assertEqual(caught.exception.at, at)
            self.assertIs(type(caught.exception.at), int)

    def test_no_list(self):
        book = chain_book("f(?x) -> ?x")
        for thing in objects():
            if not isinstance(thing, (list, tuple)):
                self.check(book, thing, 0)

    def test_items(self):
        book = fork_book("p(?x, ?y) -> ?y", "f(?z) -> ?z")
        good = (0, "x", "f")
        for thing in objects():
            self.check(book, [thing], 0)
            self.check(book, [good, thing, thing], 1)
            self.check(book, [good, (1, "z", "keep"), [0, "y", "a"], thing], 3)
        for thing in objects():
            if not (isinstance(thing, int) and not isinstance(thing, bool) and thing == 1):
                self.check(book, [good, (thing, "z", "f")], 1)
            self.check(book, [good, (0, thing, "f")], 1)
            if thing not in ("one", "keep"):
                if not isinstance(thing, str) or thing not in FORK.labels:
                    self.check(book, [good, (0, "x", thing)], 1)
            if thing == "one":
                self.check(book, [(0, "x", thing)], 0)

    def test_words_and_numbers(self):
        book = fork_book("p(?x, ?y) -> ?y", "f(?z) -> ?z")
        for bar in [(2, "x", "f"), (-1, "z", "f"), (True, "z", "f"), (False, "x", "f"), (0, "z", "f"), (1, "x", "f"),
                    (0, "x", "h"), (0, "x", "b"), (0, "f", "x"), (0, "x"), (0, "x", "f", "g"), ("0", "x", "f"), ()]:
            self.check(book, [bar], 0)
            self.check(book, ((1, "z", "p"), list(bar), bar), 1)
        self.check(chain_book(), [(0, "x", "f")], 0)

    def test_the_first_wrong_item(self):
        book = chain_book("f(?x) -> ?x")
        self.check(book, [(0, "x", "a"), (0, "x", "b"), None], 1)
        self.check(book, [(0, "x", "a"), (0, "x", "a"), (0, "y", "a"), (1, "x", "a")], 2)


class LeastBars(unittest.TestCase):
    def test_the_book_rests_already(self):
        for below in (False, True):
            book = chain_book("f(f(?x)) -> ?x", below=below)
            self.assertEqual(least_bars(book, [(0, "x", "f"), (0, "x", "a")]), [()])
            self.assertEqual(least_bars(book, []), [()])
            self.assertEqual(least_bars(chain_book(below=below), []), [()])

    def test_no_choice(self):
        book = chain_book("f(?x) -> f(f(?x))", "a -> g(a)")
        self.assertEqual(least_bars(book, []), [])
        self.assertEqual(least_bars(book, [(0, "x", "a"), (0, "x", "keep")]), [])

    def test_one_bar(self):
        for below in (False, True):
            book = chain_book("f(g(?x)) -> g(f(?x))\n  x kind g", below=below)
            bars = [(0, "x", "h"), (0, "x", "g"), (0, "x", "a"), (0, "x", "f")]
            self.assertEqual(least_bars(book, bars), [((0, "x", "g"),)])
            self.assertEqual(least_bars(book, [bars[0], bars[2]]), [])

    def test_choices_of_several_sizes(self):
        book = chain_book("f(?x) -> g(f(?x))")
        bars = [(0, "x", "keep"), (0, "x", "a")]
        self.assertEqual(least_bars(book, bars), [((0, "x", "a"), (0, "x", "keep"))])
        book = chain_book("f(?x) -> g(f(?x))\n  x kind a f keep")
        bars = [(0, "x", "keep"), (0, "x", "a"), (0, "x", "f"), (0, "x", "g")]
        self.assertEqual(least_bars(book, bars), slow_least_bars(book, bars))
        book = fork_book("p(?x, ?y) -> p(?y, ?x)\n  x kind a keep\n  y kind a f")
        bars = [(0, "y", "f"), (0, "x", "keep"), (0, "x", "a"), (0, "y", "a")]
        self.assertEqual(least_bars(book, bars), slow_least_bars(book, bars))
        self.assertEqual(least_bars(book, bars), [((0, "x", "a"),), ((0, "y", "a"),)])

    def test_both_sizes(self):
        for below in (False, True):
            book = fork_book("p(?x, ?y) -> f(p(?x, ?y))\n  x kind a\n  y kind g keep", below=below)
            bars = [(0, "y", "keep"), (0, "y", "g"), (0, "x", "a"), (0, "y", "f")]
            found = [((0, "x", "a"),), ((0, "y", "g"), (0, "y", "keep"))]
            self.assertEqual(least_bars(book, bars), found)
            self.assertEqual(least_bars(book, bars[::-1]), found)
            self.assertEqual(least_bars(book, bars[:2]), found[1:])
            self.assertEqual(least_bars(book, bars[1:]), found[:1])

    def test_rules_as_integers_holes_and_labels_as_words(self):
        """Choices with as many bars are ordered as Python orders tuples."""
        book = chain_book("f(?x) -> f(g(?x))\n  x kind g", "g(h(?a)) -> h(g(?a))\n  a kind h")
        bars = [(1, "a", "h"), (0, "x", "g")]
        self.assertEqual(least_bars(book, bars), slow_least_bars(book, bars))
        book = fork_book("p(?y, ?x) -> f(p(?y, ?x))\n  y kind a\n  x kind a")
        bars = [(0, "y", "a"), (0, "x", "a")]
        self.assertEqual(least_bars(book, bars), [((0, "x", "a"),), ((0, "y", "a"),)])

    def test_more_bars_may_do_less(self):
        """A choice with more bars is told only if none of its parts does, and some do what greater ones do not."""
        found = 0
        for number in range(7200, 7400):
            drawing = Drawing(number)
            book = drawing.book(drawing.limits()[1])
            bars = all_bars(book)[:3]
            if () in least_bars(book, bars) and bars:
                doing = [second(barred(book, [bar])) is None for bar in bars]
                found += not all(doing)
        self.assertGreater(found, 0)

    def test_kinds_of_values(self):
        book = chain_book("f(?x) -> g(f(?x))")
        found = least_bars(book, [[0, "x", "keep"], [0, "x", "a"]])
        self.assertEqual(found, [((0, "x", "a"), (0, "x", "keep"))])
        self.assertIs(type(found), list)
        self.assertIs(type(found[0]), tuple)
        self.assertIs(type(found[0][0]), tuple)

    def test_drawn(self):
        lengths = set()
        for number in range(7500, 7700):
            drawing = Drawing(number)
            book = drawing.book(drawing.limits()[1])
            bars = all_bars(book)
            drawing.rng.shuffle(bars)
            bars = bars[:drawing.rng.randint(0, 4)]
            found = least_bars(book, bars)
            self.assertEqual(found, slow_least_bars(book, bars), (number, bars))
            lengths |= {len(choice) for choice in found}
        self.assertGreaterEqual(lengths, {0, 1, 2})


class Lots(unittest.TestCase):
    renames = [chain_book("f(?x) -> g(?x)"), chain_book("g(?x) -> h(?x)"), chain_book("h(?x) -> f(?x)"),
               chain_book("a -> keep(a)")]

    def test_one_book(self):
        for book in self.renames:
            self.assertEqual(greatest_lots([book]), [(0,)])

    def test_equal_books(self):
        book = self.renames[0]
        self.assertEqual(greatest_lots([book, book]), [(0, 1)])
        self.assertEqual(greatest_lots((book, chain_book("f(?x) -> g(?x)"), book, book)), [(0, 1, 2, 3)])

    def test_each_alone(self):
        self.assertEqual(greatest_lots(self.renames[:3]), [(0,), (1,), (2,)])
        self.assertEqual(greatest_lots(self.renames[:2]), [(0,), (1,)])

    def test_all_in_one(self):
        books = [chain_book(), self.renames[0], chain_book("h(?x) -> ?x"), self.renames[0]]
        self.assertEqual(greatest_lots(books), [(0, 1, 2, 3)])

    def test_books_in_common(self):
        one, other, free = self.renames[0], self.renames[1], chain_book()
        self.assertEqual(greatest_lots([one, other, free]), [(0, 2), (1, 2)])
        self.assertEqual(greatest_lots([free, one, other, one]), [(0, 1, 3), (0, 2)])
        self.assertEqual(greatest_lots([other, one, free, one]), [(1, 2, 3), (0, 2)])
        self.assertEqual(greatest_lots([one, other, self.renames[2], free]), [(0, 3), (1, 3), (2, 3)])

    def test_their_order(self):
        one, other = self.renames[0], self.renames[1]
        self.assertEqual(greatest_lots([one, other, one]), [(0, 2), (1,)])
        self.assertEqual(greatest_lots([other, one, one]), [(1, 2), (0,)])
        self.assertEqual(greatest_lots([one, other, other, one]), [(0, 3), (1, 2)])

    def test_kinds_of_values(self):
        found = greatest_lots((self.renames[0],))
        self.assertIs(type(found), list)
        self.assertIs(type(found[0]), tuple)
        self.assertIs(type(found[0][0]), int)

    def test_drawn(self):
        told = set()
        for number in range(8000, 8120):
            drawing = Drawing(number)
            books = [drawing.straight_book(drawing.limits()[1] // 2) for _ in range(drawing.rng.randint(1, 4))]
            if drawing.rng.random() < 0.5:
                books[-1] = drawing.kin(books[0])
            self.assertTrue(all([is_straight(book) for book in books]))
            if all([labels_of(pair) <= drawing.limits()[1] for pair in itertools.combinations(books, 2)]):
                found = greatest_lots(books)
                self.assertEqual(found, slow_lots(books))
                told.add((len(books), len(found)))
        self.assertGreaterEqual(told, {(1, 1), (2, 1), (2, 2), (3, 1), (3, 2), (4, 1), (4, 2), (4, 3)})

    def check(self, books, index):
        with self.assertRaises(BadRow) as caught:
            greatest_lots(books)
        self.assertEqual(caught.exception.index, index)
        self.assertIs(type(caught.exception.index), int)

    def test_no_list(self):
        for thing in objects():
            if not isinstance(thing, (list, tuple)) or len(thing) == 0:
                self.check(thing, 0)

    def test_items(self):
        one, other, third = self.renames[:3]
        for thing in objects() + [CHAIN, one.rules[0], one * other]:
            self.check([thing], 0)
            self.check([one, thing, thing], 1)
            self.check([one, other, third, thing], 3)
            self.check((one, other, one, other, thing), 4)

    def test_books_of_another_language(self):
        one, other = self.renames[:2]
        for language in [Language([("a", 0), ("g", 1), ("f", 1), ("h", 1)]), FORK,
                         Language([("a", 0), ("f", 1), ("g", 1), ("h", 2)])]:
            alien = Book(language, [])
            self.check([one, alien], 1)
            self.check([alien, one, other], 1)
            self.check([one, other, one, alien], 3)
            self.check([one, alien, None], 1)
            self.check([one, None, alien], 1)
        self.assertEqual(greatest_lots([one, Book(Language([["a", 0], ["f", 1], ["g", 1], ["h", 1]]), one.rules)]),
                         [(0, 1)])

    def test_four_books_are_no_fault(self):
        self.assertEqual(greatest_lots([chain_book()] * 4), [(0, 1, 2, 3)])


if __name__ == "__main__":
    unittest.main()
