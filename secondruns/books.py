"""Books of rules, rows of passes of books, and passes until nothing is done any more."""

from secondruns.booktexts import book_text, read_book
from secondruns.errors import (
    BadBook, BadCount, BadFlag, BadRow, BadTree, NoBook, NoRest, UnlikeLanguages, UnlikeWays,
)
from secondruns.kinds import is_index, is_number, is_row
from secondruns.nodes import as_tuples, is_hole, nodes_in_order
from secondruns.parts import Parts
from secondruns.passes import Pass
from secondruns.rules import Rule, labels_in

MOST_BOOKS = 3


def rule_labels(rule):
    """All labels in the shapes, the kinds and the bars of a rule."""
    labels = []
    labels.extend(labels_in(rule.left))
    labels.extend(labels_in(rule.right))
    for hole in rule.holes():
        if rule.kind(hole) is not None:
            labels.extend(rule.kind(hole))
        labels.extend(rule.bar(hole))
    return labels


def wrong_rule(language, rule):
    """The word for what keeps an object from being a rule of a book over a language, or None."""
    if not isinstance(rule, Rule):
        return "rule"
    if not all([label in language.labels for label in rule_labels(rule)]):
        return "label"
    for node in nodes_in_order(rule.left) + nodes_in_order(rule.right):
        if not is_hole(node) and len(node) - 1 != language.children(node[0]):
            return "children"
    return None


def whole(language, tree):
    """A tree of a language as tuples."""
    if not language.is_tree(tree):
        raise BadTree(tree)
    return as_tuples(tree)


class Book:
    """A book: rules over a language. A pass of it goes from above or from below."""

    def __init__(self, language, rules, below=False):
        if not is_row(rules):
            raise BadBook(0, "rules")
        for index, rule in enumerate(rules):
            wrong = wrong_rule(language, rule)
            if wrong is not None:
                raise BadBook(index, wrong)
        if not isinstance(below, bool):
            raise BadFlag(below)
        self.language = language
        self.rules = tuple(rules)
        self.below = below
        self.parts = Parts(self.rules, below)

    def __len__(self):
        return len(self.rules)

    def __eq__(self, other):
        return (isinstance(other, Book) and self.language == other.language
                and self.rules == other.rules and self.below == other.below)

    def __call__(self, tree):
        return Pass(self, whole(self.language, tree)).result()

    def __add__(self, other):
        if not isinstance(other, Book):
            return NotImplemented
        if self.language != other.language:
            raise UnlikeLanguages()
        if self.below != other.below:
            raise UnlikeWays()
        return Book(self.language, self.rules + other.rules, self.below)

    def __mul__(self, other):
        return joined_row(self, other)

    def __pow__(self, count):
        if not is_number(count) or count < 1 or count > MOST_BOOKS:
            raise BadCount(count)
        return Row([self for _ in range(count)])

    def done(self, tree):
        """The pairs (place, index of the rule) of the fits that a pass over a tree does."""
        return Pass(self, whole(self.language, tree)).done()

    def origins(self, tree):
        """Where each node of what a pass makes of a tree comes from, by its place."""
        return Pass(self, whole(self.language, tree)).origins()

    def text(self):
        """The book as lines."""
        return book_text(self)

    @classmethod
    def read(cls, language, text):
        """The book with this text over a language."""
        rules, below = read_book(text)
        return cls(language, rules, below)


def wrong_book(books, most=None):
    """The index of the first item that cannot stand in a list of books of one language, or None.

    There may be no more than so many of them, if this is told.
    """
    if not is_row(books) or len(books) == 0:
        return 0
    for index, book in enumerate(books):
        if not isinstance(book, Book) or most is not None and index >= most:
            return index
        if book.language != books[0].language:
            return index
    return None


class Row:
    """A row of passes: up to three books of one language, one behind the other."""

    def __init__(self, books):
        wrong = wrong_book(books, MOST_BOOKS)
        if wrong is not None:
            raise BadRow(wrong)
        self.books = tuple(books)
        self.language = books[0].language

    def __len__(self):
        return len(self.books)

    def __eq__(self, other):
        return isinstance(other, Row) and self.books == other.books

    def __iter__(self):
        raise TypeError("the books of a row are asked for by their numbers")

    def __getitem__(self, at):
        if not is_index(at, len(self.books)):
            raise NoBook(at)
        return self.books[at]

    def __call__(self, tree):
        made = whole(self.language, tree)
        for book in self.books:
            made = Pass(book, made).result()
        return made

    def __mul__(self, other):
        return joined_row(self, other)

    def steps(self, tree):
        """A tree, and then what comes of each pass."""
        made = whole(self.language, tree)
        yield made
        for book in self.books:
            made = Pass(book, made).result()
            yield made


def books_of(runs):
    """The list of the books of runs, which are a book or a row."""
    if isinstance(runs, Row):
        return list(runs.books)
    return [runs]


def joined_row(one, other):
    """The row of the books of one runs and then of other ones."""
    return Row(books_of(one) + books_of(other))


def labels_in_order(tree):
    """The labels of a tree in order. They tell it from all other trees of its language, however deep."""
    return [node[0] for node in nodes_in_order(tree)]


def settled(book, tree, most):
    """The tree that comes when passes of a book are made until nothing is done any more.

    Returns the pair of it and the number of the passes in which something was done.
    """
    run = Pass(book, whole(book.language, tree))
    if not is_number(most) or most < 0:
        raise BadCount(most)
    many = 0
    left = most
    marked = []
    marked_at = 0
    while left > 0 and not run.does_nothing():
        run = Pass(book, run.result())
        many = many + 1
        left = left - 1
        # A tree that comes again comes again for ever: whole rounds can be left out.
        labels = labels_in_order(run.tree)
        if labels == marked:
            left = left % (many - marked_at)
        if many >= 2 * marked_at:
            marked = labels
            marked_at = many
    if not run.does_nothing():
        raise NoRest(run.tree)
    return (run.tree, many)
