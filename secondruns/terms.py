"""Trees in which calls may stand as leaves, by numbers.

A TERM is made of labels and of CALLS, which stand for trees that are not known yet. Equal terms have equal
numbers, so that they are compared at a glance and a piece that stands in many places is kept once. The
pieces of a term have lesser numbers than the term.
"""


class Terms:
    """All terms that have come up. `rows` tells each: (label, numbers of the children), or what it calls.

    What is called is told by a tuple that does not begin with a string.
    """

    def __init__(self):
        self.rows = []
        self.numbers = {}
        self.with_calls = []
        self.unlike = {}

    def number(self, row, has_calls):
        """The number of a term."""
        if row not in self.numbers:
            self.numbers[row] = len(self.rows)
            self.rows.append(row)
            self.with_calls.append(has_calls)
        return self.numbers[row]

    def node(self, label, beneath):
        """The term with a label above these terms."""
        return self.number((label, tuple(beneath)), any([self.with_calls[term] for term in beneath]))

    def call(self, name):
        """The term that is a call."""
        return self.number(name, True)

    def is_call(self, term):
        """Whether a term is a call."""
        return not isinstance(self.rows[term][0], str)

    def calling_pieces(self, term):
        """The pieces of a term in which calls stand, each once, those beneath ahead of those above."""
        found = {}
        waiting = [term]
        while waiting:
            piece = waiting.pop()
            if self.with_calls[piece] and piece not in found:
                found[piece] = True
                if not self.is_call(piece):
                    waiting.extend(self.rows[piece][1])
        return sorted(found)

    def calls_in(self, term):
        """The calls in a term, each once."""
        return [piece for piece in self.calling_pieces(term) if self.is_call(piece)]

    def put(self, term, contents):
        """The term in which terms stand in the places of the calls; contents is a dict by calls."""
        made = {}
        for piece in self.calling_pieces(term):
            if self.is_call(piece):
                made[piece] = contents[piece]
            else:
                label, beneath = self.rows[piece]
                made[piece] = self.node(label, [made.get(child, child) for child in beneath])
        return made.get(term, term)

    def parted(self, one, other):
        """What must be the same if two terms are: a list of pairs of a call and a term, either way round.

        Returns None if they cannot be the same.
        """
        key = (one, other)
        if key not in self.unlike:
            self.unlike[key] = self.pairs_beneath(one, other)
        return self.unlike[key]

    def pairs_beneath(self, one, other):
        """What `parted` tells."""
        found = {}
        waiting = [(one, other)]
        while waiting:
            left, right = sorted(waiting.pop())
            if left == right or (left, right) in found:
                continue
            if not self.is_call(left) and not self.is_call(right):
                if not self.with_calls[left] and not self.with_calls[right]:
                    return None
                if self.rows[left][0] != self.rows[right][0]:
                    return None
                waiting.extend(list(zip(self.rows[left][1], self.rows[right][1])))
            found[(left, right)] = True
        return [pair for pair in found if self.is_call(pair[0]) or self.is_call(pair[1])]
