"""Types of trees for several runs beside one another, by numbers."""


class Beside:
    """The types for several stages: `rows` tells for each number the tuple of the numbers of the stages.

    It can be asked for what a stage can be asked for (secondruns/stages.py), as far as Growth asks.
    """

    def __init__(self, stages):
        self.stages = stages
        self.rows = []
        self.numbers = {}

    def node(self, label, numbers):
        """The number of the tree with this top label and children of these numbers."""
        beneath = [self.rows[number] for number in numbers]
        row = tuple([stage.node(label, [child[n] for child in beneath]) for n, stage in enumerate(self.stages)])
        if row not in self.numbers:
            self.numbers[row] = len(self.rows)
            self.rows.append(row)
        return self.numbers[row]

    def view(self, use, number):
        """What counts of a number for a use."""
        return tuple([stage.view(use, n) for stage, n in zip(self.stages, self.rows[number])])

    def is_hit(self, number):
        """Nothing is looked for."""
        return False
