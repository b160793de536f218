"""Languages and books that are drawn by a number, the same ones each time, within the limits of [6]."""

import random

from secondruns.books import Book
from secondruns.languages import Language
from secondruns.rules import Rule, holes_in

CHAINS = [
    [("a", 0), ("f", 1), ("g", 1), ("h", 1)],
    [("f", 1), ("a", 0), ("b", 0), ("g", 1)],
    [("g", 1), ("f", 1), ("a", 0)],
    [("a", 0), ("f", 1)],
]
FORKS = [
    [("a", 0), ("f", 1), ("g", 1), ("p", 2)],
    [("p", 2), ("a", 0), ("b", 0), ("f", 1)],
    [("f", 1), ("p", 2), ("a", 0)],
    [("a", 0), ("p", 2)],
]


def is_straight(book):
    """Whether no rule of a book writes a hole twice."""
    written = [holes_in(rule.right) for rule in book.rules]
    return all([len(set(holes)) == len(holes) for holes in written])


def labels_of(books):
    """The number of the labels of the left shapes of some books."""
    return sum([len(book.parts.named) for book in books])


class Drawing:
    def __init__(self, number, rows=None):
        self.rng = random.Random(number)
        self.rows = rows or self.rng.choice(CHAINS + FORKS)
        self.language = Language(self.rows)
        self.has_fork = 2 in [many for _, many in self.rows]
        self.labels = [label for label, _ in self.rows] + ["keep"]

    def left(self, labels, holes, top=True):
        """A pair of a left shape with at most so many labels, and the number of its labels."""
        rows = [row for row in self.rows if top or row[1] < 2]
        if labels > 1 and self.rng.random() < 0.9:
            rows = [row for row in rows if row[1] > 0] or rows
        label, many = self.rng.choice(rows)
        used = 1
        beneath = []
        for _ in range(many):
            if used < labels and self.rng.random() < 0.75:
                child, more = self.left(labels - used, holes, False)
                used += more
            else:
                child = "xyzuvw"[len(holes)]
                holes.append(child)
            beneath.append(child)
        return (label, *beneath), used

    def right(self, labels, holes):
        """A pair of a right shape with at most so many labels, if it can be, and their number."""
        if labels < 1 and holes or holes and self.rng.random() < 0.3:
            return self.rng.choice(holes), 0
        rows = [row for row in self.rows + [("keep", 1)] if row[1] < labels or row[1] == 0]
        if labels > 1 and self.rng.random() < 0.8:
            rows = [row for row in rows if row[1] > 0] or rows
        label, many = self.rng.choice(rows)
        used = 1
        beneath = []
        for k in range(many):
            child, more = self.right(labels - used - (0 if holes else many - 1 - k), holes)
            used += more
            beneath.append(child)
        return (label, *beneath), used

    def rule(self, labels, barred):
        holes = []
        left, _ = self.left(labels, holes)
        right, used = self.right(self.rng.randint(0, 4), holes)
        while used > 4:
            right, used = self.right(self.rng.randint(0, 4), holes)
        kinds = {hole: self.rng.sample(self.labels, self.rng.randint(0, len(self.labels) - 1))
                 for hole in holes if self.rng.random() < 0.2}
        bars = {hole: self.rng.sample(barred, self.rng.randint(1, len(barred)))
                for hole in holes if self.rng.random() < 0.5}
        return Rule(left, right, kinds, bars)

    def book(self, labels, below=None):
        """A book with at most so many labels in its left shapes."""
        barred = self.rng.sample(self.labels, 2)
        rules = []
        while labels > 0 and len(rules) < 3:
            many = self.rng.randint(1, min(3, labels))
            rules.append(self.rule(many, barred))
            labels -= many
        if below is None:
            below = self.rng.random() < 0.5
        return Book(self.language, rules, below)

    def books(self, many):
        """So many books for a row, whose left shapes together have as many labels as [6] allows."""
        most = {True: {1: 4, 2: 4, 3: 3}, False: {1: 6, 2: 6, 3: 6}}[self.has_fork][many]
        labels = [0] * many
        for _ in range(most):
            labels[self.rng.randrange(many)] += 1
        return [self.book(n) for n in labels]

    def straight_book(self, labels):
        """A book with at most so many labels in its left shapes, no rule of which writes a hole twice."""
        book = self.book(labels)
        while not is_straight(book):
            book = self.book(labels)
        return book

    def kin(self, book):
        """A book that differs from a book in one thing, or in nothing."""
        rules = list(book.rules)
        below = book.below
        turn = self.rng.randrange(6)
        at = self.rng.randrange(max(1, len(rules)))
        if turn == 0:
            below = not below
        elif turn == 1:
            self.rng.shuffle(rules)
        elif turn == 2 and rules:
            rules.pop(at)
        elif turn == 3 and rules:
            rules[at] = Rule(rules[at].left, rules[at].right)
        elif turn == 4 and 0 < len(rules) < 3:
            rules.append(rules[at])
        return Book(self.language, rules, below)

    def limits(self):
        """How many labels two runs that are compared, and two that are exchanged, may have together."""
        return (6, 3) if self.has_fork else (8, 4)

    def two_rows(self):
        """The books of two rows that may be compared."""
        while True:
            ones = [self.straight_book(self.rng.randint(0, 3)) for _ in range(self.rng.randint(1, 3))]
            if self.rng.random() < 0.5:
                others = [self.kin(book) for book in ones]
            else:
                others = [self.straight_book(self.rng.randint(0, 3)) for _ in range(self.rng.randint(1, 3))]
            if labels_of(ones + others) <= self.limits()[0]:
                return ones, others

    def two_books(self):
        """Two books that may be compared; their rules may write a hole twice."""
        while True:
            one = self.book(self.rng.randint(1, 4))
            other = self.kin(one) if self.rng.random() < 0.6 else self.book(self.rng.randint(1, 4))
            if labels_of([one, other]) <= self.limits()[0]:
                return one, other

    def two_runs(self):
        """The books of two runs that may be exchanged: three books at most."""
        while True:
            many = self.rng.choice([(1, 1), (1, 1), (2, 1), (1, 2)])
            ones, others = [[self.straight_book(self.rng.randint(0, 3)) for _ in range(n)] for n in many]
            if self.rng.random() < 0.3:
                others[0] = self.kin(ones[0])
            if labels_of(ones + others) <= self.limits()[1]:
                return ones, others

    def greater_tree(self, nodes):
        """A tree with so many nodes."""
        if nodes == 1:
            return (self.rng.choice([label for label, many in self.rows if many == 0]),)
        rows = [row for row in self.rows if 0 < row[1] < nodes]
        if not rows or self.rng.random() < 0.08:
            rows = [("keep", 1)]
        label, many = self.rng.choice(rows)
        if many == 1:
            return (label, self.greater_tree(nodes - 1))
        first = self.rng.randint(1, nodes - 2)
        return (label, self.greater_tree(first), self.greater_tree(nodes - 1 - first))

    def trees(self, many):
        """The first so many trees, in order."""
        found = []
        nodes = 1
        while len(found) < many:
            for tree in self.language.trees(nodes):
                found.append(tree)
                if len(found) == many:
                    break
            nodes += 1
        return found
