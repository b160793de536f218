"""Promise [44], as far as it speaks of books."""

import unittest

from secondruns.books import Book
from secondruns.errors import BadBook, BadLine
from secondruns.languages import Language
from secondruns.rules import Rule
from tests.drawn import Drawing

L = Language([("one", 0), ("neg", 1), ("add", 2)])
FULL = Book(L, [
    Rule(("add", "y", ("neg", "x")), ("keep", ("add", "x", "x")),
         {"y": ["one", "add"], "x": []}, {"x": ["one"], "y": ["keep", "add"]}),
    Rule(("one",), ("one",)),
    Rule(("neg", "keep"), "keep", {"keep": ["keep"]}, {}),
], True)
LINES = [
    "below",
    "add(?y, neg(?x)) -> keep(add(?x, ?x))",
    "  y kind add one",
    "  y bar add keep",
    "  x kind",
    "  x bar one",
    "one -> one",
    "neg(?keep) -> ?keep",
    "  keep kind keep",
]


class Texts(unittest.TestCase):
    def test_words(self):
        self.assertEqual(FULL.text(), "\n".join(LINES))
        self.assertEqual(Book(L, []).text(), "above")
        self.assertEqual(Book(L, [], True).text(), "below")
        self.assertEqual(Book(L, [Rule(("neg", "x"), "x", None, {"x": []})]).text(), "above\nneg(?x) -> ?x")

    def test_texts_and_back(self):
        books = [FULL, Book(L, []), Book(L, [], True)] + [Drawing(number).book(6) for number in range(300)]
        for book in books:
            for again in (Book.read(book.language, book.text()), Book.read(language=book.language, text=book.text())):
                self.assertIs(type(again), Book)
                self.assertEqual(again, book)
                self.assertEqual(again.text(), book.text())

    def test_holes_with_the_words_of_the_lines(self):
        book = Book(L, [Rule(("add", "kind", "bar"), "bar", {"kind": ["one"], "bar": []}, {"bar": ["one", "neg"]})])
        self.assertEqual(book.text().split("\n")[2:], ["  kind kind one", "  bar kind", "  bar bar neg one"])
        self.assertEqual(Book.read(L, book.text()), book)


class Lines(unittest.TestCase):
    def bad_line(self, lines, line):
        for text in ("\n".join(lines), "\n".join(lines + ["", "x"])):
            with self.assertRaises(BadLine) as caught:
                Book.read(L, text)
            self.assertEqual(caught.exception.line, line, text)
            self.assertIs(type(caught.exception.line), int)

    def bad_book(self, lines, index, word):
        with self.assertRaises(BadBook) as caught:
            Book.read(L, "\n".join(lines))
        self.assertEqual((caught.exception.index, caught.exception.word), (index, word), lines)

    def test_the_first_line(self):
        for line in ("", " ", "Above", "above ", " above", "  above", "beneath", "above below", "neg(?x) -> ?x",
                     "  x kind", "one 0"):
            self.bad_line([line], 1)
            self.bad_line([line] + LINES[1:], 1)
        self.bad_line(LINES[1:], 1)

    def test_rule_lines(self):
        for line in ("", " ", "neg(?x)", "neg(?x) ->", "neg(?x) -> ", "-> ?x", " -> ?x", "neg(?x) - > ?x",
                     "neg(?x)->?x", "neg(?x)  -> ?x", "neg(?x) ->  ?x", " neg(?x) -> ?x", "neg(?x) -> ?x ",
                     "neg(?x) -> ?x -> ?x", "neg(?x) <- ?x", "neg(?x -> ?x", "neg(x?) -> ?x", "neg(?x) -> neg(?x",
                     "?x -> ?x", "?x -> one", "keep(?x) -> ?x", "neg(keep(?x)) -> ?x", "add(?x, ?x) -> ?x",
                     "neg(?x) -> ?y", "neg(?x) -> add(?x, ?y)", "one -> ?one", "neg(one) -> ?x", "neg(?x) = ?x",
                     "above", "x kind one", "neg(?X) -> ?X", "neg(?abcdefghi) -> one", "neg(?x) -> ?x\t"):
            self.bad_line(["above", line], 2)
            self.bad_line(["above", "neg(?x) -> ?x", line], 3)
            self.bad_line(["above", "neg(?x) -> ?x", "  x bar one", line, "one -> one"], 4)
            self.bad_line(["below", line, "neg(?x)"], 2)

    def test_hole_lines(self):
        for line in ("  ", "   ", "  x", "  x ", " x kind", "   x kind", "  x kind ", "  x  kind", "  x kind  one",
                     "  x kind one ", "  x kinds", "  x bars one", "  x Kind", "  kind x", "  ?x kind", "  z kind",
                     "  add kind", "  xy kind", "  x bar", "  x bar ", "  x bar  one", "  x kind one add",
                     "  x kind one one", "  x bar one one", "  x bar neg add", "  x kind add one add", "  x kind One",
                     "  x kind one, two", "  x kind abcdefghi", "  x bar 1", "  x kind one bar one", "\tx kind",
                     "  neg(?x) -> ?x", "  x kind\tone", "  x:kind", "  kind", "  bar one", "x bar one"):
            self.bad_line(["above", "add(?x, ?y) -> ?x", line], 3)
            self.bad_line(["above", "one -> one", "add(?x, ?y) -> ?x", line, "  y kind"], 4)

    def test_where_hole_lines_stand(self):
        self.bad_line(["above", "  x kind"], 2)
        self.bad_line(["above", "  x kind", "neg(?x) -> ?x"], 2)
        self.bad_line(["above", "neg(?x) -> ?x", "one -> one", "  x kind"], 4)
        self.bad_line(["above", "neg(?x) -> ?x", "add(?y, ?z) -> ?y", "  x kind"], 4)
        rule = ["above", "add(?y, ?x) -> ?x"]
        lines = ["  y kind", "  y bar one", "  x kind one", "  x bar add"]
        for n, one in enumerate(lines):
            for k, other in enumerate(lines):
                if n < k:
                    Book.read(L, "\n".join(rule + [one, other]))
                else:
                    self.bad_line(rule + [one, other], 4)
        Book.read(L, "\n".join(rule + lines))
        self.bad_line(rule + lines + lines[-1:], 7)
        self.bad_line(rule + lines + lines[:1], 7)

    def test_lines_left_out_doubled_exchanged_or_changed(self):
        whole = "\n".join(LINES)
        self.assertEqual(Book.read(L, whole), FULL)
        for n in range(len(LINES)):
            self.told(LINES[:n] + LINES[n + 1:])
            self.told(LINES[:n + 1] + LINES[n:])
            for k in range(n):
                lines = list(LINES)
                lines[n], lines[k] = lines[k], lines[n]
                self.told(lines)
        for at in range(len(whole)):
            for sign in " ?a(),\n->kx":
                self.told((whole[:at] + sign + whole[at + 1:]).split("\n"))
                self.told((whole[:at] + sign + whole[at:]).split("\n"))
            self.told((whole[:at] + whole[at + 1:]).split("\n"))

    def told(self, lines):
        """A text is read if, and only if, it is the text of the book that is read; else a line is told, or the
        lines up to it are those of a book and what the labels are is told."""
        try:
            book = Book.read(L, "\n".join(lines))
        except BadLine as error:
            self.assertTrue(1 <= error.line <= len(lines))
            ahead = lines[:error.line - 1]
            if ahead:
                self.whole_lines(ahead)
        except BadBook as error:
            self.assertIn(error.word, ("label", "children"))
        else:
            self.assertEqual(book.text(), "\n".join(lines))

    def whole_lines(self, lines):
        try:
            self.assertEqual(Book.read(L, "\n".join(lines)).text(), "\n".join(lines))
        except BadBook:
            pass

    def test_empty_lines(self):
        self.bad_line([""], 1)
        self.bad_line(["above", ""], 2)
        self.bad_line(["", "above"], 1)
        self.bad_line(LINES + [""], len(LINES) + 1)
        self.bad_line(LINES[:4] + [""] + LINES[4:], 5)

    def test_bad_book_comes_behind_bad_line(self):
        self.bad_book(["above", "two -> one"], 0, "label")
        self.bad_book(["above", "neg(?x) -> ?x", "  x kind two"], 0, "label")
        self.bad_book(["above", "neg(?x) -> ?x", "  x bar two"], 0, "label")
        self.bad_book(["above", "one -> one", "neg(?x, ?y) -> ?x"], 1, "children")
        self.bad_book(["below", "one -> one", "neg(?x, ?y) -> ?x", "  x kind one two"], 1, "label")
        self.bad_book(["below", "neg(?x) -> neg", "two -> one"], 0, "children")
        self.bad_line(["above", "two -> one", "one"], 3)
        self.bad_line(["above", "neg -> one", "neg(?x) -> ?x", "  y kind"], 4)

    def test_long_texts(self):
        deep = "neg(" * 390 + "?x" + ")" * 390 + " -> ?x"
        self.assertEqual(Book.read(L, "above\n" + deep).text(), "above\n" + deep)
        self.bad_line(["above", "neg(" * 480], 2)
        self.bad_line(["above", "one -> " + "neg(" * 400 + "one" + ")" * 399], 2)
        self.bad_line(["above"] + ["one -> one"] * 150 + ["one -> "], 152)


if __name__ == "__main__":
    unittest.main()
