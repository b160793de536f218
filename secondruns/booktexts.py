"""The texts of books: a line for the way, then a line for each rule and lines for its holes."""

from secondruns.errors import BadLine, BadText
from secondruns.kinds import is_word_list
from secondruns.rules import Rule, holes_in, is_left, is_right, read_shape, shape_text

WAYS = ("above", "below")
ARROW = " -> "
INDENT = "  "
DEMANDS = ("kind", "bar")


def hole_lines(rule, hole):
    """The lines for a hole of a rule."""
    lines = []
    kind = rule.kind(hole)
    bars = rule.bar(hole)
    if kind is not None:
        lines.append(INDENT + " ".join([hole, "kind", *kind]))
    if bars:
        lines.append(INDENT + " ".join([hole, "bar", *bars]))
    return lines


def book_text(book):
    """A book as lines."""
    lines = [WAYS[1] if book.below else WAYS[0]]
    for rule in book.rules:
        lines.append(shape_text(rule.left) + ARROW + shape_text(rule.right))
        for hole in rule.holes():
            lines.extend(hole_lines(rule, hole))
    return "\n".join(lines)


def shape_or_none(text):
    """The shape with this text, or None."""
    try:
        return read_shape(text)
    except BadText:
        return None


def shapes_of_line(line):
    """The pair of the shapes that a rule's line tells, or None if it is not written so."""
    before, _, behind = line.partition(ARROW)
    left = shape_or_none(before)
    right = shape_or_none(behind)
    if not is_left(left) or not is_right(right, holes_in(left)):
        return None
    return (left, right)


def ascend(words):
    """Whether each of these words comes behind the one ahead of it."""
    return all([words[n] < words[n + 1] for n in range(len(words) - 1)])


def demand_of_line(line, holes):
    """The tuple (number of the hole, number of the word, labels) that a hole's line tells, or None."""
    words = line[len(INDENT):].split(" ")
    if len(words) < 2 or words[0] not in holes or words[1] not in DEMANDS:
        return None
    labels = words[2:]
    if not is_word_list(labels) or not ascend(labels):
        return None
    if words[1] == "bar" and not labels:
        return None
    return (holes.index(words[0]), DEMANDS.index(words[1]), labels)


class Draft:
    """A rule while its lines are read. `last` is the pair of numbers of the last hole's line (demand_of_line)."""

    def __init__(self, left, right):
        self.left = left
        self.right = right
        self.demands = ({}, {})
        self.last = (-1, -1)

    def take(self, line):
        """Takes a hole's line; tells whether it can stand there."""
        holes = holes_in(self.left)
        demand = demand_of_line(line, holes)
        if demand is None or demand[:2] <= self.last:
            return False
        hole, word, labels = demand
        self.last = (hole, word)
        self.demands[word][holes[hole]] = labels
        return True

    def finished(self):
        """The rule that has been read."""
        return Rule(self.left, self.right, self.demands[0], self.demands[1])


def read_line(line, drafts):
    """Takes a line behind the first one into the drafts of the rules; tells whether it can stand there."""
    if line.startswith(INDENT):
        return len(drafts) > 0 and drafts[-1].take(line)
    shapes = shapes_of_line(line)
    if shapes is None:
        return False
    drafts.append(Draft(shapes[0], shapes[1]))
    return True


def read_book(text):
    """The pair of the rules and the way of the book with this text; True is from below."""
    lines = text.split("\n")
    if lines[0] not in WAYS:
        raise BadLine(1)
    drafts = []
    for at in range(1, len(lines)):
        if not read_line(lines[at], drafts):
            raise BadLine(at + 1)
    return ([draft.finished() for draft in drafts], lines[0] == WAYS[1])
