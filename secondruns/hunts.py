"""The search for the least tree for which two calls do not come to the same.

A PAIR is a tuple (use, at, one, other) of two terms that should be the same for each unknown tree that
counts for this use as the kept tree number `at` does, which is the least of them (for each tree at all, if
the use is None). It is led on by the joins that make its trees, and comes to further pairs, or to labels
that are not the same. Pairs are led on in the order of the sizes of the trees in which they come up. So if
a tree parts the first pair, the search ends with the size of the least one. If there is none, each pair is
the same for its least tree, so neither of its terms has more labels than the outcome for this tree, and
there are finitely many pairs.

FACT: of the least two trees (x, y) that part a pair under a label with two children, one is the least tree
that may stand there. For one side of the pair is a call, say on x. Let m and n be the least trees that may
stand there. If neither (m, n) nor (m, y) parted the pair, the other side would be the same for both, so its
calls on y would come to the same for n and y, and with (x, y) the lesser (x, n) would part the pair, too.
So each join leads to pairs with one unknown child, and the other child is the least one.
"""


class Hunt:
    """The search from one pair on.

    Pairs are led on in the order of the sizes of the trees that could part the first pair by way of them.
    `waiting` tells by these sizes the tuples (pair, nodes around its unknown tree, nodes of that one).
    `above` tells for each pair whence it came, as tuples (pair, join, number of the unknown child);
    `found` tells by sizes the tuples (pair, tree that parts it); `most` is the size of the least tree that
    parts the first pair, once it is known.
    """

    def __init__(self, calls):
        self.calls = calls
        self.growth = calls.growth
        self.joins = {}
        self.waiting = {}
        self.looked = {}
        self.above = {}
        self.found = {}
        self.most = None

    def joins_of(self, use, at, nodes):
        """The joins with so many nodes that make trees which count for a use as a kept tree does."""
        joins = self.growth.joins_with(nodes)
        if use is None:
            return joins
        stage = self.growth.stage
        key = (use, nodes)
        if key not in self.joins:
            self.joins[key] = {}
            for join in joins:
                view = stage.view(use, self.growth.joins[join][2])
                self.joins[key].setdefault(view, []).append(join)
        return self.joins[key].get(stage.view(use, self.growth.numbers[at]), [])

    def size_of(self, join):
        """The number of nodes of the tree of a join."""
        return 1 + sum([self.growth.sizes[at] for at in self.growth.joins[join][1]])

    def tree_of(self, join, k, child):
        """The tree of a join, with another tree as its child number k."""
        label, beneath, _ = self.growth.joins[join]
        children = [self.growth.grown[at] for at in beneath]
        children[k:k + 1] = [child]
        return (label, *children)

    def wait(self, pair, around, nodes):
        """Notes that a pair waits to be led on by joins with so many nodes."""
        self.waiting.setdefault(around + nodes, []).append((pair, around, nodes))

    def part(self, pair, around, tree, nodes):
        """Notes that a tree with so many nodes parts a pair."""
        self.found.setdefault(nodes, []).append((pair, tree))
        self.most = around + nodes

    def look(self, pair, around, nodes):
        """Leads a pair on by the joins with so many nodes, and has it wait for those with more."""
        use, at, _, _ = pair
        if nodes == self.growth.sizes[at]:
            if pair in self.looked:
                return
            self.looked[pair] = True
        for join in self.joins_of(use, at, nodes):
            self.lead(pair, around, join, nodes)
        if nodes + 1 < len(self.growth.ends) or not self.growth.is_over():
            self.wait(pair, around, nodes + 1)

    def lead(self, pair, around, join, nodes):
        """Leads a pair on by a join with so many nodes."""
        _, _, one, other = pair
        label, beneath, _ = self.growth.joins[join]
        if beneath == [] and self.calls.led(one, join, None) != self.calls.led(other, join, None):
            self.part(pair, around, (label,), nodes)
        for k, at in enumerate(beneath):
            rows = self.calls.terms.parted(self.calls.led(one, join, k), self.calls.led(other, join, k))
            if rows is None:
                self.part(pair, around, self.tree_of(join, k, self.growth.grown[at]), nodes)
                rows = []
            for row in rows:
                further = ((label, k), at, *row)
                self.above.setdefault(further, []).append((pair, join, k))
                self.wait(further, around + nodes - self.growth.sizes[at], self.growth.sizes[at])

    def look_around(self, first):
        """Leads on all pairs by way of which the least tree could part the first pair."""
        self.growth.joins_with(1)
        self.wait(first, 0, 1)
        while self.waiting != {} and self.most is None:
            size = min(self.waiting)
            while self.waiting[size] != []:
                pair, around, nodes = self.waiting[size].pop()
                self.look(pair, around, nodes)
            del self.waiting[size]

    def raise_tree(self, pair, tree, nodes):
        """Notes what trees part other pairs, if this tree with so many nodes parts a pair."""
        for above, join, k in self.above.get(pair, []):
            at = self.growth.joins[join][1][k]
            many = self.size_of(join) - self.growth.sizes[at] + nodes
            if many <= self.most:
                self.found.setdefault(many, []).append((above, self.tree_of(join, k, tree)))

    def least_parting(self, first):
        """The least tree that parts a pair, or None."""
        self.look_around(first)
        if self.most is None:
            return None
        least = {}
        for nodes in range(1, self.most + 1):
            choices = {}
            for pair, tree in self.found.get(nodes, []):
                if pair not in least:
                    choices.setdefault(pair, []).append(tree)
            for pair, found in choices.items():
                least[pair] = min(found, key=self.growth.language.order_key)
                self.raise_tree(pair, least[pair], nodes)
        return least[first]
