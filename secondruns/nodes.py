"""Walks over the nodes of trees and shapes.

A shape is a tree in which holes may stand: words as strings. Trees may be deeper than calls may be
nested, so no walk here calls itself.
"""


def is_hole(node):
    """Whether a node of a shape is a hole."""
    return isinstance(node, str)


def nodes_in_order(shape):
    """All nodes of a tree or a shape, each with what is beneath it, in the order of their places."""
    found = []
    waiting = [shape]
    while waiting:
        node = waiting.pop()
        found.append(node)
        if not is_hole(node):
            # The last one is taken first, so the first child goes in behind the others.
            for child in node[:0:-1]:
                waiting.append(child)
    return found


def nodes_with_places(shape):
    """The list of pairs of a node and its place, for all nodes of a tree or a shape, in order."""
    found = []
    waiting = [(shape, ())]
    while waiting:
        node, place = waiting.pop()
        found.append((node, place))
        if not is_hole(node):
            for k in reversed(range(len(node) - 1)):
                waiting.append((node[k + 1], (*place, k)))
    return found


def sizes_in_order(tree):
    """The sizes of the pieces at all places of a tree, in the order of the places."""
    found = []
    open_sizes = []
    for node in nodes_in_order(tree)[::-1]:
        total = 1
        for _ in node[1:]:
            total = total + open_sizes.pop()
        open_sizes.append(total)
        found.append(total)
    return found[::-1]


def filled(shape, contents):
    """A shape, made of tuples throughout, with these contents, a dict by holes, in the places of the holes."""
    made = []
    for node in nodes_in_order(shape)[::-1]:
        if is_hole(node):
            made.append(contents.get(node, node))
        else:
            children = []
            # From the back, the children of a node were made just ahead of it, the first one last.
            for _ in node[1:]:
                children.append(made.pop())
            made.append((node[0], *children))
    return made[0]


def as_tuples(shape):
    """The same tree or shape, made of tuples throughout."""
    return filled(shape, {})
