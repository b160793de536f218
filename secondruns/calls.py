"""Calls, which stand for what passes make of a piece of a tree that is not known, and how they are led on.

A call is a tuple (run, places): the run tells the row of books by its number, and the places, as many as
passes are made, of which pieces they are made (secondruns/drafts.py). Where no pass is made, the run is 0.

The unknown tree becomes known label by label. What a call comes to is settled by the top label and by
what counts of the children for it. So it is told by a JOIN of the growth (secondruns/growth.py): a label
above trees each of which is the least one of those that count alike.
"""

from secondruns.beside import Beside
from secondruns.drafts import draft_begun, gaps_in, is_gap, passed
from secondruns.ends import Nothing
from secondruns.growth import Growth
from secondruns.stages import stage_of_row
from secondruns.terms import Terms


def stages_in(stage):
    """A stage and those behind it, without the end."""
    found = []
    while not isinstance(stage, Nothing):
        found.append(stage)
        stage = stage.behind
    return found


class Calls:
    """The calls of some rows of books over a language."""

    def __init__(self, language, rows):
        stages = [stage_of_row(books, Nothing()) for books in rows]
        self.beside = Beside(stages)
        self.stages = [stages_in(stage) for stage in stages]
        self.growth = Growth(language, self.beside)
        self.terms = Terms()
        self.drafts = {}
        self.outcomes = [{} for _ in rows]
        self.leads = {}

    def call(self, run, places):
        """The term that is a call."""
        return self.terms.call((run if places != () else 0, places))

    def draft(self, join, run, places):
        """The draft of what a call comes to for the tree of a join."""
        key = (join, run, places)
        if key not in self.drafts:
            if places == ():
                label, beneath, _ = self.growth.joins[join]
                rows = [self.beside.rows[self.growth.numbers[at]] for at in beneath]
                self.drafts[key] = draft_begun(label, [row[run] for row in rows])
            else:
                stage = self.stages[run][len(places) - 1]
                self.drafts[key] = passed(stage, self.draft(join, run, places[:-1]), places[-1])
        return self.drafts[key]

    def term_of(self, draft, contents):
        """The term of a draft with terms in the gaps; contents is a dict by the pairs (child, places)."""
        if is_gap(draft):
            return contents[draft[:2]]
        label, beneath = draft
        return self.terms.node(label, [self.term_of(child, contents) for child in beneath])

    def kept_in_gaps(self, draft, join):
        """For the gaps of a draft the pairs (places, kept tree) of what they stand for in the tree of a join."""
        beneath = self.growth.joins[join][1]
        return {(child, places): (places, beneath[child]) for child, places in gaps_in(draft)}

    def outcome(self, run, places, at):
        """What a call comes to for a kept tree.

        Kept trees may be deeper than calls may be nested, so what is beneath is made ahead of what is above.
        """
        known = self.outcomes[run]
        waiting = [(places, at)]
        while (places, at) not in known:
            join = self.growth.births[waiting[-1][1]]
            draft = self.draft(join, run, waiting[-1][0])
            gaps = self.kept_in_gaps(draft, join)
            lacking = [beneath for beneath in gaps.values() if beneath not in known]
            if lacking == []:
                contents = {gap: known[beneath] for gap, beneath in gaps.items()}
                known[waiting[-1]] = self.term_of(draft, contents)
                waiting.pop()
            waiting.extend(lacking)
        return known[(places, at)]

    def led_call(self, run, places, join, unknown):
        """What a call comes to for the trees of a join of which one child is unknown."""
        draft = self.draft(join, run, places)
        contents = {}
        for gap, (further, at) in self.kept_in_gaps(draft, join).items():
            contents[gap] = self.call(run, further) if gap[0] == unknown else self.outcome(run, further, at)
        return self.term_of(draft, contents)

    def led(self, term, join, unknown):
        """What a term comes to for the trees of a join of which one child is unknown."""
        key = (term, join, unknown)
        if key not in self.leads:
            if self.terms.is_call(term):
                run, places = self.terms.rows[term]
                self.leads[key] = self.led_call(run, places, join, unknown)
            else:
                contents = {call: self.led(call, join, unknown) for call in self.terms.calls_in(term)}
                self.leads[key] = self.terms.put(term, contents)
        return self.leads[key]
