"""Walks over the nodes of trees.

Trees may be deeper than calls may be nested, so no walk here calls itself.
"""


def nodes_in_order(tree):
    """All nodes of a tree, each with what is beneath it, in the order of their places."""
    found = []
    waiting = [tree]
    while waiting:
        node = waiting.pop()
        found.append(node)
        # The last one is taken first, so the first child goes in behind the others.
        for child in node[:0:-1]:
            waiting.append(child)
    return found


def sizes_in_order(tree):
    """The sizes of the pieces at all places of a tree, in the order of the places."""
    found = []
    open_sizes = []
    for node in nodes_in_order(tree)[::-1]:
        total = 1
        for _ in node[1:]:
            total = total + open_sizes.pop()
        open_sizes.append(total)
        found.append(total)
    return found[::-1]


def as_tuples(tree):
    """The same tree, made of tuples throughout."""
    made = []
    for node in nodes_in_order(tree)[::-1]:
        children = []
        # From the back, the children of a node were made just ahead of it, the first one last.
        for _ in node[1:]:
            children.append(made.pop())
        made.append((node[0], *children))
    return made[0]
