"""The least trees of all types, in order, each grown out of lesser ones.

The least tree of a type stands above least trees of types: a child that has the same type as a lesser
tree can give way to it. So trees are made size by size, label by label and child by child, in the very
order of trees, out of those that were the first of their types. Of these, the ones that count alike as a
child of a label (the same view) are one for it, so only the first of them is put beneath it.
"""


def uses_of(language):
    """All pairs of a label and the number of a child of it."""
    found = []
    for label in language.labels:
        found.extend([(label, k) for k in range(language.children(label))])
    return found


class Growth:
    """The trees that were the first of their types, in order, and the numbers that a stage gives to these."""

    def __init__(self, language, stage):
        self.language = language
        self.stage = stage
        self.most = max([language.children(label) for label in language.labels])
        self.all_uses = uses_of(language)
        self.grown = []
        self.numbers = []
        self.known = {}
        self.largest = 0
        self.taken = {}
        self.firsts = {}

    def admit(self, nodes, tree, number):
        """Keeps a tree with so many nodes as the first one of its type."""
        at = len(self.grown)
        self.grown.append(tree)
        self.numbers.append(number)
        self.known[number] = True
        self.largest = nodes
        for use in self.all_uses:
            key = (use, self.stage.view(use, number))
            if key not in self.taken:
                self.taken[key] = True
                self.firsts.setdefault((use, nodes), []).append(at)

    def choices(self, label, nodes):
        """The lists of kept trees to be put beneath a label for a tree with so many nodes, in order."""
        many = self.language.children(label)
        if many == 0:
            return [[]] if nodes == 1 else []
        if many == 1:
            return [[one] for one in self.firsts.get(((label, 0), nodes - 1), [])]
        found = []
        for ahead in range(1, nodes - 1):
            others = self.firsts.get(((label, 1), nodes - 1 - ahead), [])
            for one in self.firsts.get(((label, 0), ahead), []):
                found.extend([[one, other] for other in others])
        return found

    def grow(self, nodes):
        """Makes the trees with so many nodes. Returns the first one that is a hit, or None."""
        for label in self.language.labels:
            for choice in self.choices(label, nodes):
                number = self.stage.node(label, [self.numbers[at] for at in choice])
                if number not in self.known:
                    tree = (label, *[self.grown[at] for at in choice])
                    self.admit(nodes, tree, number)
                    if self.stage.is_hit(number):
                        return tree
        return None

    def first_hit(self):
        """Makes trees until one is a hit, and returns it; None if there are no more types."""
        nodes = 1
        while nodes <= self.most * self.largest + 1:
            tree = self.grow(nodes)
            if tree is not None:
                return tree
            nodes = nodes + 1
        return None
