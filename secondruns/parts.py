"""The parts of the left shapes of a book, and which of them fit a tree.

A part is a pair (index, place): the piece of the left shape of rule number index at a place at which a
label stands. The parts of a book are numbered in ascending order, and so are the labels that it bars. A
MASK is an integer that tells some of them: the bit 1 << n is set for number n.

The SIGHT of a tree is what a book sees of it, a tuple (label, within, fitting, free): its top label, the
mask of the barred labels in it that stand beneath no keep, the mask of the parts that fit it, and the
mask of those that are free (of a book from above: none).

A LOOK is what a node sees of a child, a tuple (within, met, loose): the mask of the barred labels, the
mask of the parts that the child does not keep from fitting at the node, and the mask of those that it
does not keep from being free there.
"""

from secondruns.languages import KEEP
from secondruns.nodes import is_hole, nodes_with_places


def label_places(shape):
    """The places in a shape at which a label stands, in order."""
    return [place for node, place in nodes_with_places(shape) if not is_hole(node)]


def hole_places(shape):
    """The pairs of a hole and its place in a shape, in order."""
    return [(node, place) for node, place in nodes_with_places(shape) if is_hole(node)]


def parts_of(rules):
    """The tuples (index, place, piece of the left shape) of all parts of these rules, in ascending order."""
    found = []
    for index, rule in enumerate(rules):
        for node, place in nodes_with_places(rule.left):
            if not is_hole(node):
                found.append((index, place, node))
    return found


def barred_labels(rules):
    """The labels that some rule bars from some hole, ascending."""
    found = []
    for rule in rules:
        for hole in rule.holes():
            found.extend(rule.bar(hole))
    return sorted(set(found))


def mask_of(labels, bits):
    """The mask of some labels that have these bits."""
    mask = 0
    for label in labels:
        mask = mask | bits[label]
    return mask


def masks_by_label(parts):
    """For each label the mask of the parts at whose top it stands."""
    found = {}
    for n, (_, _, node) in enumerate(parts):
        found[node[0]] = found.get(node[0], 0) | 1 << n
    return found


def demands_of(rules, parts, label_bits):
    """What the parts demand of a child, by the pairs (label, number of the child).

    Each demand is a tuple (bit of the part, bit of the part that must fit the child, kind, mask of the
    bars). If the child is the content of a hole, the second bit is 0.
    """
    bits = {(index, place): 1 << n for n, (index, place, _) in enumerate(parts)}
    found = {}
    for index, place, node in parts:
        rule = rules[index]
        for k, child in enumerate(node[1:]):
            if is_hole(child):
                demand = (bits[(index, place)], 0, rule.kind(child), mask_of(rule.bar(child), label_bits))
            else:
                demand = (bits[(index, place)], bits[(index, (*place, k))], None, 0)
            found[(node[0], k)] = found.get((node[0], k), []) + [demand]
    return found


class Parts:
    """The parts of the left shapes of some rules that go from above or, if below is True, from below.

    `named` tells the parts, and `barred` the barred labels, in the order of their numbers; `spots` for each
    rule the places of the labels of its left shape, and `gaps` the pairs of a hole and its place;
    `start_bits` the bit of its whole left shape.
    """

    def __init__(self, rules, below):
        parts = parts_of(rules)
        self.below = below
        self.named = [(index, place) for index, place, _ in parts]
        self.barred = barred_labels(rules)
        self.label_bits = {label: 1 << n for n, label in enumerate(self.barred)}
        self.spots = [label_places(rule.left) for rule in rules]
        self.gaps = [hole_places(rule.left) for rule in rules]
        self.start_bits = [1 << n for n, (_, place) in enumerate(self.named) if place == ()]
        self.starts = {bit: index for index, bit in enumerate(self.start_bits)}
        self.start_mask = sum(self.start_bits)
        self.standing = masks_by_label(parts)
        self.demands = demands_of(rules, parts, self.label_bits)

    def look(self, label, k, sight):
        """What a node with this label sees of its child number k, of which this is the sight."""
        if label == KEEP:
            return (0, 0, 0)
        top, within, fitting, free = sight
        met = 0
        loose = 0
        for bit, child_bit, kind, bars in self.demands.get((label, k), []):
            if child_bit == 0:
                loose = loose | bit
                if within & bars == 0 and (kind is None or top in kind):
                    met = met | bit
            else:
                if fitting & child_bit:
                    met = met | bit
                if free & child_bit:
                    loose = loose | bit
        return (within, met, loose)

    def first_rule(self, mask):
        """The index of the first rule whose whole left shape is among the parts of a mask, or None."""
        starts = mask & self.start_mask
        if starts == 0:
            return None
        return self.starts[starts & -starts]

    def sight(self, label, looks):
        """The pair of the sight of a tree and the index of the rule that is done at its top, or None.

        (Done in a pass over this tree alone.)
        """
        within = self.label_bits.get(label, 0)
        fitting = self.standing.get(label, 0)
        free = fitting
        for inside, met, loose in looks:
            within = within | inside
            fitting = fitting & met
            free = free & met & loose
        if not self.below:
            return ((label, within, fitting, 0), self.first_rule(fitting))
        index = self.first_rule(free)
        # A fit at the top has the top in common with every part.
        return ((label, within, fitting, free if index is None else 0), index)
