"""Trees of any language: their places, their pieces and their texts."""

from secondruns.errors import NoPlace
from secondruns.kinds import is_number, is_row
from secondruns.nodes import as_tuples, nodes_in_order, nodes_with_places
from secondruns.texts import read_whole, text_of


def size(tree):
    """The number of the nodes of a tree."""
    return len(nodes_in_order(tree))


def places(tree):
    """The list of all places in a tree, in order."""
    return [place for _, place in nodes_with_places(tree)]


def nodes_down(tree, place):
    """The nodes from the top of a tree down to a place, each with what is beneath it."""
    if not is_row(place):
        raise NoPlace(place)
    nodes = [tree]
    for k in place:
        node = nodes[-1]
        if not is_number(k) or k < 0 or k >= len(node) - 1:
            raise NoPlace(place)
        nodes.append(node[k + 1])
    return nodes


def piece(tree, place):
    """The piece of a tree at a place."""
    return as_tuples(nodes_down(tree, place)[-1])


def placed(tree, place, other):
    """The tree in which another tree stands in the place of the piece there."""
    nodes = nodes_down(as_tuples(tree), place)
    made = as_tuples(other)
    for depth in reversed(range(len(place))):
        node = nodes[depth]
        k = place[depth]
        made = node[:k + 1] + (made,) + node[k + 2:]
    return made


def tree_text(tree):
    """A tree as a text."""
    return text_of(tree)


def read_tree(text):
    """The tree with this text."""
    return read_whole(text, False)
