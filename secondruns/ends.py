"""What may stand behind the last stage: what is asked of the trees that come of the passes.

What a stage can be asked for is told in secondruns/stages.py; so can these ends.
"""

from secondruns.languages import KEEP


class Nothing:
    """Nothing is asked: all trees have one number."""

    def __init__(self):
        self.asks_beneath = False

    def node(self, label, numbers):
        """The number of a tree."""
        return 0

    def built(self, index, rule, contents):
        """The number of what a rule writes."""
        return 0

    def uses(self, rule):
        """No content counts."""
        return {}

    def view(self, use, number):
        """What counts of a number."""
        return 0

    def is_hit(self, number):
        """Nothing is looked for."""
        return False


class Fitting:
    """Whether anything is done in a pass: 1 if a rule of the book ahead fits somewhere, otherwise 0.

    Whether one fits hangs on no pass, so the book ahead may be looked at as one that goes from above,
    and what it would make of the contents does not count.
    """

    def __init__(self):
        self.asks_beneath = False

    def node(self, label, numbers):
        """The number of a tree at whose top no rule fits."""
        return 1 if label != KEEP and 1 in numbers else 0

    def built(self, index, rule, contents):
        """The number of a tree at whose top a rule fits."""
        return 1

    def uses(self, rule):
        """No content counts."""
        return {}

    def view(self, use, number):
        """What counts of a number."""
        return number

    def is_hit(self, number):
        """Whether something is done."""
        return number == 1


class Doing:
    """Whether one rule of the book ahead is done at some place in a pass: 1 if it is, otherwise 0."""

    def __init__(self, index):
        self.asks_beneath = True
        self.index = index

    def node(self, label, numbers):
        """The number of a tree at whose top nothing is done."""
        return 1 if label != KEEP and 1 in numbers else 0

    def built(self, index, rule, contents):
        """The number of a tree at whose top a rule is done."""
        return 1 if index == self.index or 1 in [contents[hole] for hole in rule.holes()] else 0

    def uses(self, rule):
        """All contents count, those that are dropped, too."""
        return {hole: [None] for hole in rule.holes()}

    def view(self, use, number):
        """What counts of a number."""
        return number

    def is_hit(self, number):
        """Whether the rule is done."""
        return number == 1
