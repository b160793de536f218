"""What passes make of a tree of which only the top label and the types of the children are known.

A DRAFT is a tree of pairs (label, list of drafts) whose leaves may be GAPS, tuples (child, places, number):
what so many passes as there are places make of the child with this number. The first pass is made over
the piece of the child at the first place, the next one over the piece of what comes of it at the second
place, and so on. The number of a gap is the one that the stage of the next pass gives to it.

Beneath a keep no further pass is made, so the gaps there keep their places and an old number, which
nothing asks for.
"""

from secondruns.languages import KEEP
from secondruns.nodes import is_hole


def is_gap(draft):
    """Whether a draft is a gap."""
    return not isinstance(draft[0], str)


def gaps_in(draft):
    """The pairs (child, places) of the gaps of a draft."""
    found = []
    waiting = [draft]
    while waiting:
        piece = waiting.pop()
        if is_gap(piece):
            found.append(piece[:2])
        else:
            waiting.extend(piece[1])
    return found


def draft_begun(label, numbers):
    """The draft of a tree ahead of all passes, with children of these numbers."""
    return (label, [(k, (), number) for k, number in enumerate(numbers)])


def look_at(stage, draft):
    """The pair of the sight of a draft and the index of the rule that is done at its top, or None."""
    if is_gap(draft):
        return (stage.types[draft[2]][:4], None)
    label, beneath = draft
    if label == KEEP:
        return stage.parts.sight(label, [stage.parts.look(label, 0, None)])
    sights = [look_at(stage, child)[0] for child in beneath]
    return stage.parts.sight(label, [stage.parts.look(label, k, sight) for k, sight in enumerate(sights)])


def draft_written(shape, contents):
    """The draft of a right shape, with the contents, a dict by holes, in the places of the holes."""
    if is_hole(shape):
        return contents[shape]
    return (shape[0], [draft_written(child, contents) for child in shape[1:]])


def passed(stage, draft, place):
    """The draft of what a pass makes of the piece of a draft at a place."""
    if is_gap(draft):
        child, places, number = draft
        return (child, (*places, place), stage.number_there(number, place))
    label, beneath = draft
    if place != ():
        return passed(stage, beneath[place[0]], place[1:])
    if label == KEEP:
        return draft
    index = look_at(stage, draft)[1]
    if index is None:
        return (label, [passed(stage, child, ()) for child in beneath])
    contents = {hole: passed(stage, draft, gap) for hole, gap in stage.parts.gaps[index]}
    return draft_written(stage.rules[index].right, contents)
