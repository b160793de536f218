"""The texts of trees and of shapes. In a shape a hole is written as its word behind a question mark."""

from secondruns.errors import BadText
from secondruns.kinds import LETTERS, LONGEST_WORD
from secondruns.nodes import is_hole, nodes_in_order

MARK = "?"


def node_text(label, texts):
    """The text of a node with these texts of its children."""
    if not texts:
        return label
    inside = ", ".join(texts)
    return f"{label}({inside})"


def text_of(shape):
    """A tree or a shape as a text."""
    made = []
    for node in nodes_in_order(shape)[::-1]:
        if is_hole(node):
            made.append(MARK + node)
        else:
            texts = []
            for _ in node[1:]:
                texts.append(made.pop())
            made.append(node_text(node[0], texts))
    return made[0]


def word_at(text, at):
    """The word that begins in a text at this index."""
    end = at
    while end < len(text) and end < at + LONGEST_WORD and text[end] in LETTERS:
        end = end + 1
    if end == at:
        raise BadText(at)
    return text[at:end]


def closed(text, at, opened, node):
    """Puts a node whose text ends ahead of an index into the nodes that are opened.

    Closes those that end there, too. Returns the pair of the node that is closed last and the
    index behind it and its comma: no node is open then, or the next child begins there.
    """
    while opened:
        opened[-1].append(node)
        sign = text[at:at + 1]
        if sign == ",":
            if text[at + 1:at + 2] != " ":
                raise BadText(at + 1)
            return (node, at + 2)
        if sign != ")":
            raise BadText(at)
        node = tuple(opened.pop())
        at = at + 1
    return (node, at)


def read_whole(text, holes):
    """The tree with this text or, if holes is True, the shape."""
    opened = []
    at = 0
    while True:
        marked = holes and text[at:at + 1] == MARK
        if marked:
            at = at + 1
        word = word_at(text, at)
        at = at + len(word)
        if not marked and text[at:at + 1] == "(":
            opened.append([word])
            at = at + 1
        else:
            node, at = closed(text, at, opened, word if marked else (word,))
            if not opened:
                break
    if at < len(text):
        raise BadText(at)
    return node
