"""A pass of a book over a tree: what is done in it, what comes of it, and where that comes from."""

from secondruns.languages import KEEP
from secondruns.nodes import as_tuples, filled, is_hole, nodes_in_order, nodes_with_places, sizes_in_order


def numbers_beneath(tree):
    """For each node of a tree the list of the numbers of its children; nodes are numbered in order."""
    sizes = sizes_in_order(tree)
    found = []
    for number, node in enumerate(nodes_in_order(tree)):
        numbers = []
        child = number + 1
        for _ in node[1:]:
            numbers.append(child)
            child = child + sizes[child]
        found.append(numbers)
    return found


def rules_at_tops(parts, nodes, beneath):
    """For each node the index of the rule that is done with its top there, or None.

    (Done in a pass over the piece that begins there alone.)
    """
    sights = [None for _ in nodes]
    found = [None for _ in nodes]
    for number in reversed(range(len(nodes))):
        label = nodes[number][0]
        looks = [parts.look(label, k, sights[child]) for k, child in enumerate(beneath[number])]
        sights[number], found[number] = parts.sight(label, looks)
    return found


class Pass:
    """A pass over a tree, before anything is written.

    Nodes are told by their numbers in the order of their places. `doing` tells for each node the index
    of the rule that is done with its top there, or None; `covered` whether it is in a place of a fit
    that is done; `kept` whether it stands beneath a keep.
    """

    def __init__(self, book, tree):
        whole = as_tuples(tree)
        self.rules = book.rules
        self.parts = book.parts
        self.tree = whole
        self.nodes = nodes_in_order(whole)
        self.beneath = numbers_beneath(whole)
        self.doing = [None for _ in self.nodes]
        self.covered = [False for _ in self.nodes]
        self.kept = [False for _ in self.nodes]
        self.choose(rules_at_tops(book.parts, self.nodes, self.beneath), book.below)

    def number_at(self, number, place):
        """The number of the node at a place of the piece that begins with the node of a number."""
        for k in place:
            number = self.beneath[number][k]
        return number

    def choose(self, tops, below):
        """Settles what is done; tops are the rules that would be done if nothing stood above."""
        for number, node in enumerate(self.nodes):
            if node[0] == KEEP or self.kept[number]:
                for child in self.beneath[number]:
                    self.kept[child] = True
            index = tops[number]
            # From below, only a keep above hinders what is done in a piece alone.
            if index is not None and not self.kept[number] and (below or not self.covered[number]):
                self.doing[number] = index
                for place in self.parts.spots[index]:
                    self.covered[self.number_at(number, place)] = True

    def contents(self, number):
        """The numbers of the tops of the contents, by holes, of the fit that is done at a node."""
        gaps = self.parts.gaps[self.doing[number]]
        return {hole: self.number_at(number, place) for hole, place in gaps}

    def does_nothing(self):
        """Whether no fit is done."""
        return all([index is None for index in self.doing])

    def done(self):
        """The list of pairs (place, index of the rule) of the fits that are done, in order."""
        found = []
        for number, (_, place) in enumerate(nodes_with_places(self.tree)):
            if self.doing[number] is not None:
                found.append((place, self.doing[number]))
        return found

    def result(self):
        """What comes of the tree.

        A content that stands in several places is made once, so what is dropped costs no more than a
        glance, however great it would be if it were written down.
        """
        made = [None for _ in self.nodes]
        for number in reversed(range(len(self.nodes))):
            node = self.nodes[number]
            if self.kept[number]:
                made[number] = node
            elif self.doing[number] is not None:
                contents = {hole: made[top] for hole, top in self.contents(number).items()}
                made[number] = filled(self.rules[self.doing[number]].right, contents)
            elif not self.covered[number]:
                made[number] = (node[0], *[made[child] for child in self.beneath[number]])
        return made[0]

    def origins(self):
        """Where each node of what comes of the tree comes from, by its place there, in order.

        What waits is a tuple (place there, number, None) for what is made of the node with a number, or
        (place there, number, shape) for a piece of the right shape that is written at that node.
        """
        old_places = [place for _, place in nodes_with_places(self.tree)]
        found = {}
        waiting = [((), 0, None)]
        while waiting:
            place, number, shape = waiting.pop()
            if shape is None and self.doing[number] is not None:
                shape = self.rules[self.doing[number]].right
            if shape is None:
                found[place] = ("old", old_places[number])
                beneath = [(child, None) for child in self.beneath[number]]
            elif is_hole(shape):
                waiting.append((place, self.contents(number)[shape], None))
                beneath = []
            else:
                found[place] = ("new", old_places[number], self.doing[number])
                beneath = [(number, piece) for piece in shape[1:]]
            for k in reversed(range(len(beneath))):
                waiting.append(((*place, k), *beneath[k]))
        return found
