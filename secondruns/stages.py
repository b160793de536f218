"""Types of trees for runs, by numbers, which are made of the numbers of the children.

A STAGE stands for a book and what is behind it: the stage of the next book, or an end. It gives a number
to each type of trees that comes up, so that trees with one number cannot be told apart by these passes.
A stage and an end can be asked for
- `node(label, numbers)`: the number of the tree with this top label and children of these numbers;
- `built(index, rule, contents)`: the number of what a fit of rule number index of the book ahead writes,
  over contents of these numbers, a dict by holes;
- `uses(rule)`: for holes of this rule, the list of the uses that `built` makes of a content. A use is a
  pair (label, number of the child) of the node right above it, or None if all of it counts;
- `view(use, number)`: what counts of a number for a use, as a number: the same view, the same outcome;
- `is_hit(number)`: whether what the end looks for is so for the trees of a number.
`asks_beneath` tells whether it counts what the book ahead makes of pieces that stand beneath the top.
"""

from secondruns.languages import KEEP
from secondruns.nodes import is_hole, nodes_in_order
from secondruns.parts import Parts

ABSENT = -1


def hole_uses(shape):
    """For each hole of a right shape the pairs (label, number of the child) of the nodes right above it."""
    if is_hole(shape):
        return {shape: [None]}
    found = {}
    for node in nodes_in_order(shape):
        if not is_hole(node):
            for k, child in enumerate(node[1:]):
                if is_hole(child):
                    found[child] = found.get(child, []) + [(node[0], k)]
    return found


def number_of(stage, shape, contents):
    """The number that a stage gives to a shape with contents of these numbers, a dict by holes, in the holes."""
    made = []
    for node in nodes_in_order(shape)[::-1]:
        if is_hole(node):
            made.append(contents[node])
        else:
            numbers = []
            # From the back, the children of a node were made just ahead of it, the first one last.
            for _ in node[1:]:
                numbers.append(made.pop())
            made.append(stage.node(node[0], numbers))
    return made[0]


def gaps_beneath(parts):
    """For each place of a hole of a part whose place is not (), the mask of all these parts."""
    found = {}
    for n, (index, place) in enumerate(parts.named):
        for _, gap in parts.gaps[index]:
            if place != () and gap[:len(place)] == place:
                beneath = gap[len(place):]
                found[beneath] = found.get(beneath, 0) | 1 << n
    return found


class Stage:
    """The types for a book and what is behind it.

    Each type is a tuple (label, within, fitting, free, came): its sight (secondruns/parts.py) and, for
    each of the places `kept`, the number that what is behind gives to what the pass makes of the piece
    there, or ABSENT where no fitting part has a hole. `feeds` tells for each kept place but the first one
    the child that it lies in, its place there among `kept`, and the parts with a hole there; `counted`
    for each rule the contents that count, and `wants` what each child is needed for by them.
    """

    def __init__(self, rules, parts, behind):
        gaps = gaps_beneath(parts) if behind.asks_beneath else {}
        self.asks_beneath = True
        self.rules = rules
        self.parts = parts
        self.behind = behind
        self.kept = [(), *sorted(gaps)]
        self.feeds = [(place[0], self.kept.index(place[1:]), gaps[place]) for place in self.kept[1:]]
        self.wants = {}
        self.counted = [self.wanted(index) for index in range(len(rules))]
        self.types = []
        self.numbers = {}
        self.made = {}
        self.views = {}
        self.view_numbers = {}

    def wanted(self, index):
        """The contents of a rule that count: the list of tuples (hole, number of the child, kept place).

        Notes each use of them for the child in which they stand.
        """
        uses = self.behind.uses(self.rules[index])
        found = []
        for hole, place in self.parts.gaps[index]:
            if hole in uses:
                at = self.kept.index(place[1:])
                found.append((hole, place[0], at))
                label = self.rules[index].left[0]
                rows = self.wants.setdefault((label, place[0]), [])
                rows.extend([(self.parts.start_bits[index], at, use) for use in uses[hole]])
        return found

    def uses(self, rule):
        """The uses of the contents of a rule of the book ahead."""
        return hole_uses(rule.right)

    def is_hit(self, number):
        """Whether what the end looks for is so for the trees of a number."""
        return self.behind.is_hit(self.types[number][4][0])

    def view(self, use, number):
        """What counts of a number for a use."""
        if use is None:
            return number
        known = self.views.setdefault(use, {})
        if number not in known:
            numbers = self.view_numbers.setdefault(use, {})
            known[number] = numbers.setdefault(self.seen(use, number), len(numbers))
        return known[number]

    def number_there(self, number, place):
        """The number that what is behind gives to what the pass makes of the piece at a place.

        (ABSENT if it does not count.)
        """
        if place not in self.kept:
            return ABSENT
        return self.types[number][4][self.kept.index(place)]

    def seen(self, use, number):
        """All that counts of a number for a use: two with the same are one as this child of this label."""
        label, child = use
        if label == KEEP:
            return ()
        came = self.types[number][4]
        within, met, loose = self.parts.look(label, child, self.types[number][:4])
        found = [within, met, loose, self.behind.view(use, came[0])]
        for bit, at, further in self.wants.get(use, []):
            found.append(self.behind.view(further, came[at]) if met & bit else ABSENT)
        for place, at, mask in self.feeds:
            if place == child:
                found.append(came[at] if met & mask else ABSENT)
        return tuple(found)

    def node(self, label, numbers):
        """The number of the tree with this top label and children of these numbers."""
        key = (label, *[self.view((label, k), number) for k, number in enumerate(numbers)])
        if key not in self.made:
            found = self.type_made(label, [self.types[number] for number in numbers])
            if found not in self.numbers:
                self.numbers[found] = len(self.types)
                self.types.append(found)
            self.made[key] = self.numbers[found]
        return self.made[key]

    def type_made(self, label, beneath):
        """The type of the tree with this top label and children of these types."""
        looks = [self.parts.look(label, k, found[:4]) for k, found in enumerate(beneath)]
        sight, index = self.parts.sight(label, looks)
        if index is None:
            first = self.behind.node(label, [found[4][0] for found in beneath])
        else:
            contents = {hole: beneath[k][4][at] for hole, k, at in self.counted[index]}
            first = self.behind.built(index, self.rules[index], contents)
        came = [first]
        for k, at, mask in self.feeds:
            came.append(beneath[k][4][at] if sight[2] & mask else ABSENT)
        return (*sight, tuple(came))

    def built(self, index, rule, contents):
        """The number of what a fit of a rule of the book ahead writes."""
        return number_of(self, rule.right, contents)


def stage_of(book, behind):
    """The stage of a book and what is behind it."""
    return Stage(book.rules, book.parts, behind)


def stage_of_row(books, end):
    """The stage of all passes of these books, with an end behind them."""
    stage = end
    for book in books[::-1]:
        stage = stage_of(book, stage)
    return stage


def fitting_stage(book, end):
    """The stage of what fits, whichever way the book goes, with an end behind it."""
    return Stage(book.rules, Parts(book.rules, False), end)
