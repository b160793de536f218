"""Languages and books that are drawn by a number, the same ones each time, within the limits of [6]."""

import random

from secondruns.books import Book
from secondruns.languages import Language
from secondruns.rules import Rule

CHAINS = [
    [("a", 0), ("f", 1), ("g", 1), ("h", 1)],
    [("f", 1), ("a", 0), ("b", 0), ("g", 1)],
    [("g", 1), ("f", 1), ("a", 0)],
    [("a", 0), ("f", 1)],
]
FORKS = [
    [("a", 0), ("f", 1), ("g", 1), ("p", 2)],
    [("p", 2), ("a", 0), ("b", 0), ("f", 1)],
    [("f", 1), ("p", 2), ("a", 0)],
    [("a", 0), ("p", 2)],
]


class Drawing:
    def __init__(self, number, rows=None):
        self.rng = random.Random(number)
        self.rows = rows or self.rng.choice(CHAINS + FORKS)
        self.language = Language(self.rows)
        self.has_fork = 2 in [many for _, many in self.rows]
        self.labels = [label for label, _ in self.rows] + ["keep"]

    def left(self, labels, holes, top=True):
        """A pair of a left shape with at most so many labels, and the number of its labels."""
        rows = [row for row in self.rows if top or row[1] < 2]
        if labels > 1 and self.rng.random() < 0.9:
            rows = [row for row in rows if row[1] > 0] or rows
        label, many = self.rng.choice(rows)
        used = 1
        beneath = []
        for _ in range(many):
            if used < labels and self.rng.random() < 0.75:
                child, more = self.left(labels - used, holes, False)
                used += more
            else:
                child = "xyzuvw"[len(holes)]
                holes.append(child)
            beneath.append(child)
        return (label, *beneath), used

    def right(self, labels, holes):
        """A pair of a right shape with at most so many labels, if it can be, and their number."""
        if labels < 1 and holes or holes and self.rng.random() < 0.3:
            return self.rng.choice(holes), 0
        rows = [row for row in self.rows + [("keep", 1)] if row[1] < labels or row[1] == 0]
        if labels > 1 and self.rng.random() < 0.8:
            rows = [row for row in rows if row[1] > 0] or rows
        label, many = self.rng.choice(rows)
        used = 1
        beneath = []
        for k in range(many):
            child, more = self.right(labels - used - (0 if holes else many - 1 - k), holes)
            used += more
            beneath.append(child)
        return (label, *beneath), used

    def rule(self, labels, barred):
        holes = []
        left, _ = self.left(labels, holes)
        right, used = self.right(self.rng.randint(0, 4), holes)
        while used > 4:
            right, used = self.right(self.rng.randint(0, 4), holes)
        kinds = {hole: self.rng.sample(self.labels, self.rng.randint(0, len(self.labels) - 1))
                 for hole in holes if self.rng.random() < 0.2}
        bars = {hole: self.rng.sample(barred, self.rng.randint(1, len(barred)))
                for hole in holes if self.rng.random() < 0.5}
        return Rule(left, right, kinds, bars)

    def book(self, labels, below=None):
        """A book with at most so many labels in its left shapes."""
        barred = self.rng.sample(self.labels, 2)
        rules = []
        while labels > 0 and len(rules) < 3:
            many = self.rng.randint(1, min(3, labels))
            rules.append(self.rule(many, barred))
            labels -= many
        if below is None:
            below = self.rng.random() < 0.5
        return Book(self.language, rules, below)

    def books(self, many):
        """So many books for a row, whose left shapes together have as many labels as [6] allows."""
        most = {True: {1: 4, 2: 4, 3: 3}, False: {1: 6, 2: 6, 3: 6}}[self.has_fork][many]
        labels = [0] * many
        for _ in range(most):
            labels[self.rng.randrange(many)] += 1
        return [self.book(n) for n in labels]

    def trees(self, many):
        """The first so many trees, in order."""
        found = []
        nodes = 1
        while len(found) < many:
            for tree in self.language.trees(nodes):
                found.append(tree)
                if len(found) == many:
                    break
            nodes += 1
        return found
