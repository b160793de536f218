"""Questions about all trees: whether a rule ever acts, and whether a further pass ever does anything."""

from secondruns.books import books_of
from secondruns.ends import Doing, Fitting
from secondruns.errors import BadCount, NoBook, NoRule
from secondruns.growth import Growth
from secondruns.kinds import is_index, is_number
from secondruns.passes import Pass
from secondruns.rules import holes_in
from secondruns.stages import fitting_stage, stage_of, stage_of_row


class Finding:
    """The least tree for which a further pass does something, and what it does there."""

    def __init__(self, tree, came, place, rule, why):
        self.tree = tree
        self.came = came
        self.place = place
        self.rule = rule
        self.why = why


def least_tree(language, stage):
    """The least tree for which what the end of a stage looks for is so, or None."""
    return Growth(language, stage).first_hit()


def acts(runs, at, index):
    """The least tree for which a rule of a book of the runs is done when they are made, or None."""
    books = books_of(runs)
    if not is_index(at, len(books)):
        raise NoBook(at)
    if not is_index(index, len(books[at])):
        raise NoRule(index)
    return least_tree(runs.language, stage_of_row(books[:at + 1], Doing(index)))


def restless(book, passes):
    """The least tree of which so many passes make one over which a further pass does something, or None."""
    stage = fitting_stage(book, Fitting())
    for _ in range(passes):
        stage = stage_of(book, stage)
    return least_tree(book.language, stage)


def why_done(origins, places):
    """The word for why a fit with these places is done only behind the pass that tells these origins."""
    for place in places:
        if origins[place][0] == "new":
            return "written"
    for place in places:
        # The labels of a left shape hang together, so above each but the first one stands another one.
        if place != places[0] and origins[place][1] != (*origins[place[:-1]][1], place[-1]):
            return "joined"
    return "freed"


def finding(book, tree, passes):
    """What a pass behind so many passes does over a tree."""
    came = tree
    for _ in range(passes):
        last = Pass(book, came)
        came = last.result()
    place, rule = book.done(came)[0]
    spots = [(*place, *spot) for spot in book.parts.spots[rule]]
    return Finding(tree, came, place, rule, why_done(last.origins(), spots))


def second(book, passes=1):
    """What a pass behind so many passes finds in the least tree in which it finds anything, or None."""
    if not is_number(passes) or passes < 1 or passes > 2:
        raise BadCount(passes)
    tree = restless(book, passes)
    if tree is None:
        return None
    return finding(book, tree, passes)


def enough(book):
    """The least number of passes, up to 2, behind which no further one ever does anything, or None."""
    for passes in range(3):
        if restless(book, passes) is None:
            return passes
    return None


def holes_of_acting_rules(book):
    """For the rules that are ever done the tuples (index, hole, number of its places in the right shape).

    They stand in ascending order.
    """
    found = []
    for index, rule in enumerate(book.rules):
        if acts(book, 0, index) is not None:
            written = holes_in(rule.right)
            found.extend([(index, hole, written.count(hole)) for hole in sorted(rule.holes())])
    return found


def losing(book):
    """The pairs (index, hole) of the rules that are ever done and do not write the hole, ascending."""
    return [(index, hole) for index, hole, many in holes_of_acting_rules(book) if many == 0]


def doubling(book):
    """The pairs (index, hole) of the rules that are ever done and write the hole more than once, ascending."""
    return [(index, hole) for index, hole, many in holes_of_acting_rules(book) if many > 1]
