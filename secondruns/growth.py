"""The least trees of all types, in order, each grown out of lesser ones.

The least tree of a type stands above least trees of types: a child that has the same type as a lesser
tree can give way to it. So trees are made size by size, label by label and child by child, in the very
order of trees, out of those that were the first of their types. Of these, the ones that count alike as a
child of a label (the same view) are one for it, so only the first of them is put beneath it.
"""


def uses_of(language):
    """All pairs of a label and the number of a child of it."""
    found = []
    for label in language.labels:
        found.extend([(label, k) for k in range(language.children(label))])
    return found


class Growth:
    """The trees that were the first of their types, in order, and the numbers that a stage gives to these.

    `sizes` tells how many nodes each of these trees has. `joins` tells all that was tried: tuples (label,
    the kept trees beneath it, number of what they make), and `births` the join that made each kept tree.
    `ends` tells for each number of nodes, from 0 on, how many joins have at most so many.
    """

    def __init__(self, language, stage):
        self.language = language
        self.stage = stage
        self.most = max([language.children(label) for label in language.labels])
        self.all_uses = uses_of(language)
        self.grown = []
        self.numbers = []
        self.sizes = []
        self.joins = []
        self.births = []
        self.ends = [0]
        self.known = {}
        self.taken = {}
        self.firsts = {}

    def admit(self, nodes, tree, number):
        """Keeps a tree with so many nodes as the first one of its type."""
        at = len(self.grown)
        self.grown.append(tree)
        self.numbers.append(number)
        self.sizes.append(nodes)
        self.births.append(len(self.joins) - 1)
        self.known[number] = True
        for use in self.all_uses:
            key = (use, self.stage.view(use, number))
            if key not in self.taken:
                self.taken[key] = True
                self.firsts.setdefault((use, nodes), []).append(at)

    def choices(self, label, nodes):
        """The lists of kept trees to be put beneath a label for a tree with so many nodes, in order."""
        many = self.language.children(label)
        if many == 0:
            return [[]] if nodes == 1 else []
        if many == 1:
            return [[one] for one in self.firsts.get(((label, 0), nodes - 1), [])]
        found = []
        for ahead in range(1, nodes - 1):
            others = self.firsts.get(((label, 1), nodes - 1 - ahead), [])
            for one in self.firsts.get(((label, 0), ahead), []):
                found.extend([[one, other] for other in others])
        return found

    def is_over(self):
        """Whether all has been tried."""
        # The greatest tree to try is a label above trees of the greatest size that was kept.
        return self.sizes != [] and len(self.ends) > self.most * self.sizes[-1] + 1

    def grow(self):
        """Makes the trees with one more node than the last ones. Returns the first one that is a hit, or None."""
        nodes = len(self.ends)
        for label in self.language.labels:
            for choice in self.choices(label, nodes):
                number = self.stage.node(label, [self.numbers[at] for at in choice])
                self.joins.append((label, choice, number))
                if number not in self.known:
                    tree = (label, *[self.grown[at] for at in choice])
                    self.admit(nodes, tree, number)
                    if self.stage.is_hit(number):
                        return tree
        self.ends.append(len(self.joins))
        return None

    def joins_with(self, nodes):
        """The numbers of all joins with so many nodes."""
        while len(self.ends) <= nodes and not self.is_over():
            self.grow()
        if len(self.ends) <= nodes:
            return []
        return list(range(self.ends[nodes - 1], self.ends[nodes]))

    def first_hit(self):
        """Makes trees until one is a hit, and returns it; None if there are no more types."""
        while not self.is_over():
            tree = self.grow()
            if tree is not None:
                return tree
        return None
