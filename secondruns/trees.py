"""Trees of any language: their places, their pieces and their texts."""

from secondruns.errors import BadText, NoPlace
from secondruns.kinds import LETTERS, LONGEST_WORD, is_number, is_row
from secondruns.nodes import as_tuples, nodes_in_order


def size(tree):
    """The number of the nodes of a tree."""
    return len(nodes_in_order(tree))


def places(tree):
    """The list of all places in a tree, in order."""
    found = []
    waiting = [(tree, ())]
    while waiting:
        node, place = waiting.pop()
        found.append(place)
        for k in reversed(range(len(node) - 1)):
            waiting.append((node[k + 1], (*place, k)))
    return found


def nodes_down(tree, place):
    """The nodes from the top of a tree down to a place, each with what is beneath it."""
    if not is_row(place):
        raise NoPlace(place)
    nodes = [tree]
    for k in place:
        node = nodes[-1]
        if not is_number(k) or k < 0 or k >= len(node) - 1:
            raise NoPlace(place)
        nodes.append(node[k + 1])
    return nodes


def piece(tree, place):
    """The piece of a tree at a place."""
    return as_tuples(nodes_down(tree, place)[-1])


def placed(tree, place, other):
    """The tree in which another tree stands in the place of the piece there."""
    nodes = nodes_down(as_tuples(tree), place)
    made = as_tuples(other)
    for depth in reversed(range(len(place))):
        node = nodes[depth]
        k = place[depth]
        made = node[:k + 1] + (made,) + node[k + 2:]
    return made


def node_text(label, texts):
    """The text of a node with these texts of its children."""
    if not texts:
        return label
    inside = ", ".join(texts)
    return f"{label}({inside})"


def tree_text(tree):
    """A tree as a text."""
    made = []
    for node in nodes_in_order(tree)[::-1]:
        texts = []
        for _ in node[1:]:
            texts.append(made.pop())
        made.append(node_text(node[0], texts))
    return made[0]


def word_at(text, at):
    """The word that begins in a text at this index; it is empty if none does."""
    end = at
    while end < len(text) and end < at + LONGEST_WORD and text[end] in LETTERS:
        end = end + 1
    return text[at:end]


def closed(text, at, opened, node):
    """Puts a node whose text ends ahead of an index into the nodes that are opened.

    Closes those that end there, too. Returns the pair of the node that is closed last and the
    index behind it and its comma: no node is open then, or the next child begins there.
    """
    while opened:
        opened[-1].append(node)
        sign = text[at:at + 1]
        if sign == ",":
            if text[at + 1:at + 2] != " ":
                raise BadText(at + 1)
            return (node, at + 2)
        if sign != ")":
            raise BadText(at)
        node = tuple(opened.pop())
        at = at + 1
    return (node, at)


def read_tree(text):
    """The tree with this text."""
    opened = []
    at = 0
    while True:
        word = word_at(text, at)
        if word == "":
            raise BadText(at)
        at = at + len(word)
        if text[at:at + 1] == "(":
            opened.append([word])
            at = at + 1
        else:
            node, at = closed(text, at, opened, (word,))
            if not opened:
                break
    if at < len(text):
        raise BadText(at)
    return node
