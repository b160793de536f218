"""Shapes, and the rules that turn pieces of one shape into pieces of another one."""

from secondruns.errors import BadRule, UnknownHole
from secondruns.kinds import is_row, is_word, is_word_list
from secondruns.languages import KEEP
from secondruns.nodes import as_tuples, is_hole, nodes_in_order
from secondruns.texts import read_whole, text_of


def shape_text(shape):
    """A shape as a text."""
    return text_of(shape)


def read_shape(text):
    """The shape with this text."""
    return read_whole(text, True)


def is_shape(thing):
    """Whether an object is a shape."""
    waiting = [thing]
    while waiting:
        node = waiting.pop()
        if is_row(node) and len(node) > 0:
            waiting.extend(node[1:])
            node = node[0]
        if not is_word(node):
            return False
    return True


def holes_in(shape):
    """The holes of a shape in the order of their places, each as often as it stands there."""
    return [node for node in nodes_in_order(shape) if is_hole(node)]


def labels_in(shape):
    """The labels of a shape in the order of their places."""
    return [node[0] for node in nodes_in_order(shape) if not is_hole(node)]


def is_left(thing):
    """Whether an object is a left shape."""
    if not is_shape(thing) or is_hole(thing) or KEEP in labels_in(thing):
        return False
    holes = holes_in(thing)
    return len(set(holes)) == len(holes)


def is_right(thing, holes):
    """Whether an object is a right shape behind a left one with these holes."""
    return is_shape(thing) and all([hole in holes for hole in holes_in(thing)])


def are_labels(thing, holes):
    """Whether an object is a dict from some of these holes to lists of words."""
    if not isinstance(thing, dict):
        return False
    return all([hole in holes and is_word_list(labels) for hole, labels in thing.items()])


def wrong_argument(left, right, kinds, bars):
    """The word for the first argument that makes no rule, or None."""
    if not is_left(left):
        return "left"
    holes = holes_in(left)
    if not is_right(right, holes):
        return "right"
    if kinds is not None and not are_labels(kinds, holes):
        return "kinds"
    if bars is not None and not are_labels(bars, holes):
        return "bars"
    return None


class Rule:
    """A rule: what is of the left shape is turned into the right one, with the same contents of the holes."""

    def __init__(self, left, right, kinds=None, bars=None):
        wrong = wrong_argument(left, right, kinds, bars)
        if wrong is not None:
            raise BadRule(wrong)
        self.left = as_tuples(left)
        self.right = as_tuples(right)
        self.kinds = {hole: None for hole in holes_in(left)}
        self.bars = {hole: () for hole in holes_in(left)}
        if kinds is not None:
            for hole, labels in kinds.items():
                self.kinds[hole] = tuple(sorted(set(labels)))
        if bars is not None:
            for hole, labels in bars.items():
                self.bars[hole] = tuple(sorted(set(labels)))

    def __eq__(self, other):
        return (isinstance(other, Rule) and self.left == other.left and self.right == other.right
                and self.kinds == other.kinds and self.bars == other.bars)

    def holes(self):
        """The holes of the left shape in the order of their places."""
        return list(self.kinds)

    def kind(self, hole):
        """The labels that may stand at the top of the hole's content, or None if all may."""
        if hole not in self.holes():
            raise UnknownHole(hole)
        return self.kinds[hole]

    def bar(self, hole):
        """The labels that may not stand in the hole's content, but beneath a keep in it."""
        if hole not in self.holes():
            raise UnknownHole(hole)
        return self.bars[hole]


def contents_of(left, tree):
    """The contents, by holes, with which a left shape fits a tree, or None if it does not."""
    contents = {}
    waiting = [(left, tree)]
    while waiting:
        shape, found = waiting.pop()
        if is_hole(shape):
            contents[shape] = as_tuples(found)
        elif shape[0] != found[0] or len(shape) != len(found):
            return None
        else:
            waiting.extend(list(zip(shape[1:], found[1:])))
    return contents


def has_label(tree, labels):
    """Whether one of these labels stands in a tree, but not beneath a keep."""
    waiting = [tree]
    while waiting:
        node = waiting.pop()
        if node[0] in labels:
            return True
        if node[0] != KEEP:
            waiting.extend(node[1:])
    return False


def may_stand(rule, hole, content):
    """Whether the kind and the bars of a hole allow a content."""
    kind = rule.kind(hole)
    if kind is not None and content[0] not in kind:
        return False
    return not has_label(content, rule.bar(hole))


def fit(rule, tree):
    """The contents, by holes, with which a rule fits a tree, or None if it does not."""
    contents = contents_of(rule.left, tree)
    if contents is None:
        return None
    holes = rule.holes()
    if not all([may_stand(rule, hole, contents[hole]) for hole in holes]):
        return None
    return {hole: contents[hole] for hole in holes}
