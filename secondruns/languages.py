"""Languages: labels with their numbers of children, and the trees that are made of them."""

from secondruns.choices import choices_begun, choices_behind, tree_chosen
from secondruns.errors import BadLanguage, BadLine, UnknownLabel
from secondruns.kinds import is_number, is_row, is_word
from secondruns.nodes import nodes_in_order, sizes_in_order

KEEP = "keep"


def is_label_row(row):
    """Whether an object is a pair of a label that may be listed and its number of children."""
    if not is_row(row) or len(row) != 2:
        return False
    label, number = row
    if not is_word(label) or label == KEEP:
        return False
    return is_number(number) and 0 <= number <= 2


def wrong_row(rows):
    """The index of the first row that is wrong, or None if the rows make a language."""
    if not is_row(rows):
        return 0
    earlier = []
    for index, row in enumerate(rows):
        if not is_label_row(row) or row[0] in earlier:
            return index
        earlier.append(row[0])
    if 0 not in [row[1] for row in rows]:
        return len(rows)
    return None


def row_of_line(line):
    """The pair of label and number that a line tells, or None if it is not written so."""
    words = line.split(" ")
    if len(words) != 2 or not is_word(words[0]) or words[1] not in ("0", "1", "2"):
        return None
    return (words[0], int(words[1]))


class Language:
    """A language: labels with their numbers of children, and keep with one child."""

    def __init__(self, rows):
        wrong = wrong_row(rows)
        if wrong is not None:
            raise BadLanguage(wrong)
        self.rows = tuple([(row[0], row[1]) for row in rows])
        self.numbers = {label: number for label, number in (*self.rows, (KEEP, 1))}
        self.labels = tuple(self.numbers)

    def __len__(self):
        return len(self.rows)

    def __eq__(self, other):
        return isinstance(other, Language) and self.rows == other.rows

    def children(self, label):
        """The number of children of a label."""
        if label not in self.labels:
            raise UnknownLabel(label)
        return self.numbers[label]

    def is_node(self, thing):
        """Whether an object has one of the labels at its top and as many children as it has."""
        if not is_row(thing) or len(thing) == 0 or thing[0] not in self.labels:
            return False
        return len(thing) == self.numbers[thing[0]] + 1

    def is_tree(self, thing):
        """Whether an object is a tree of this language."""
        waiting = [thing]
        while waiting:
            node = waiting.pop()
            if not self.is_node(node):
                return False
            waiting.extend(node[1:])
        return True

    def order_key(self, tree):
        """What trees are ordered by: size and label of each piece, in the order of the places."""
        labels = [self.labels.index(node[0]) for node in nodes_in_order(tree)]
        return list(zip(sizes_in_order(tree), labels))

    def is_less(self, one, other):
        """Whether one tree comes ahead of another one."""
        return self.order_key(one) < self.order_key(other)

    def trees(self, nodes):
        """All trees with so many nodes, in order."""
        if nodes < 1:
            return
        numbers = [self.numbers[label] for label in self.labels]
        choices = choices_begun(numbers, [], nodes)
        while choices is not None:
            yield tree_chosen(self.labels, numbers, choices)
            choices = choices_behind(numbers, choices)

    def text(self):
        """The language as lines, one for each listed label."""
        return "\n".join([f"{label} {number}" for label, number in self.rows])

    @classmethod
    def read(cls, text):
        """The language with this text."""
        rows = []
        for at, line in enumerate(text.split("\n")):
            row = row_of_line(line)
            if row is None:
                raise BadLine(at + 1)
            rows.append(row)
        return cls(rows)
