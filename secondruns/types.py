"""Types of trees: what passes can tell of a tree, for all trees in finitely many words."""

from secondruns.books import books_of, whole
from secondruns.ends import Nothing
from secondruns.growth import Growth
from secondruns.kinds import is_number, is_row
from secondruns.stages import ABSENT, number_of, stage_of_row


def names_in(mask, names):
    """The names, as a tuple, whose bits are set in a mask; they are numbered in their order."""
    return tuple([name for n, name in enumerate(names) if mask >> n & 1])


class Teller:
    """Tells the types of the numbers of the stages of some runs."""

    def __init__(self, stage):
        self.stage = stage
        self.told = {}
        self.behind = None if isinstance(stage.behind, Nothing) else Teller(stage.behind)

    def tell(self, number):
        """The type with a number."""
        if number not in self.told:
            label, within, fitting, free, came = self.stage.types[number]
            parts = self.stage.parts
            self.told[number] = (
                label, names_in(within, parts.barred), names_in(fitting, parts.named),
                names_in(free, parts.named), self.tell_came(came))
        return self.told[number]

    def tell_came(self, came):
        """What the pass makes of the pieces: the pairs of a place and a type."""
        if self.behind is None:
            return ()
        return tuple([(place, self.behind.tell(number)) for place, number in zip(self.stage.kept, came)
                      if number != ABSENT])


def stage_of_runs(runs):
    """The stage of runs with nothing behind them."""
    return stage_of_row(books_of(runs), Nothing())


def type_of(runs, tree):
    """The type of a tree for runs."""
    stage = stage_of_runs(runs)
    return Teller(stage).tell(number_of(stage, whole(runs.language, tree), {}))


def types(runs):
    """The types that trees have, each with its least tree, in the order of these trees."""
    stage = stage_of_runs(runs)
    growth = Growth(runs.language, stage)
    growth.first_hit()
    teller = Teller(stage)
    return [(teller.tell(number), tree) for number, tree in zip(growth.numbers, growth.grown)]


def is_same(told, thing):
    """Whether an object is what is told; lists may stand for tuples."""
    if isinstance(told, tuple):
        if not is_row(thing) or len(thing) != len(told):
            return False
        return all([is_same(one, other) for one, other in zip(told, thing)])
    if is_number(told):
        return is_number(thing) and told == thing
    return isinstance(thing, str) and told == thing


def told_numbers(stage, language, thing):
    """The numbers of the told types of a table, or None if an object is no list of types with their trees."""
    if not is_row(thing):
        return None
    teller = Teller(stage)
    numbers = []
    for pair in thing:
        if not is_row(pair) or len(pair) != 2 or not language.is_tree(pair[1]):
            return None
        number = number_of(stage, pair[1], {})
        if not is_same(teller.tell(number), pair[0]):
            return None
        numbers.append(number)
    return numbers


def first_of_each_view(stage, use, numbers):
    """Those of these numbers that do not count alike as an earlier one for a use."""
    firsts = {}
    for number in numbers:
        firsts.setdefault(stage.view(use, number), number)
    return list(firsts.values())


def rows_beneath(stage, label, many, numbers):
    """The lists of numbers to be tried as so many children of a label."""
    rows = [[]]
    for k in range(many):
        firsts = first_of_each_view(stage, (label, k), numbers)
        rows = [row + [number] for row in rows for number in firsts]
    return rows


def is_closed(stage, language, numbers):
    """Whether each label above trees of types of these numbers makes trees of types of these numbers."""
    known = {number: True for number in numbers}
    for label in language.labels:
        for row in rows_beneath(stage, label, language.children(label), numbers):
            if stage.node(label, row) not in known:
                return False
    return True


def is_table(runs, thing):
    """Whether an object is a list of types with trees of them, each once, that is closed under all labels."""
    stage = stage_of_runs(runs)
    numbers = told_numbers(stage, runs.language, thing)
    if numbers is None or len(set(numbers)) != len(numbers):
        return False
    return is_closed(stage, runs.language, numbers)
