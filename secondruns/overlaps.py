"""Overlaps: shapes that can lie over one another, so that one rule may get in the way of another one."""

from secondruns.errors import UnlikeLanguages
from secondruns.nodes import as_tuples, is_hole, nodes_with_places


def can_lie_over(one, other):
    """Whether there is a tree which both shapes fit, each place of a hole with a content of its own."""
    waiting = [(one, other)]
    while waiting:
        left, right = waiting.pop()
        if not is_hole(left) and not is_hole(right):
            if left[0] != right[0] or len(left) != len(right):
                return False
            waiting.extend(list(zip(left[1:], right[1:])))
    return True


def meets(shape, other):
    """The places of a shape at which a label stands and over which another shape can lie, in order."""
    return [place for node, place in nodes_with_places(as_tuples(shape))
            if not is_hole(node) and can_lie_over(node, other)]


def pairs_of_rules(one, other):
    """The tuples (i, rule, j, rule) of each rule of one book and each rule of another one, in order."""
    if one.language != other.language:
        raise UnlikeLanguages()
    return [(i, rule, j, further) for i, rule in enumerate(one.rules) for j, further in enumerate(other.rules)]


def overlaps(one, other):
    """Where the left shape of a rule of the other book can lie over that of a rule of the one.

    Returns the ascending list of the tuples (i, j, place).
    """
    found = []
    for i, rule, j, further in pairs_of_rules(one, other):
        found.extend([(i, j, place) for place in meets(rule.left, further.left)])
    if one == other:
        found = [(i, j, place) for i, j, place in found if i != j or place != ()]
    return sorted(found)


def written(one, other):
    """Where a rule of the other book could fit over what a rule of the one has written.

    Returns the ascending list of the tuples (i, j, "in" or "over", place).
    """
    found = []
    for i, rule, j, further in pairs_of_rules(one, other):
        found.extend([(i, j, "in", place) for place in meets(rule.right, further.left)])
        if not is_hole(rule.right):
            found.extend([(i, j, "over", place) for place in meets(further.left, rule.right) if place != ()])
    return sorted(found)
