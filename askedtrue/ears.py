"""What a Teller keeps worked out of all that it heard of one other end."""

from askedtrue.plays import answers_of
from askedtrue.sureness import tally
from askedtrue.tables import is_within, kept_copies


class Ear:
    """The copies of one end that are within no other one, their answers, and a tally of all copies."""

    def __init__(self, kept, answers, counts):
        self.kept = kept
        self.answers = answers
        self.counts = counts

    def hear(self, copy):
        """The Ear that has heard this copy, too."""
        counts = {entry: number for entry, number in self.counts.items()}
        for entry in copy:
            counts[entry] = counts.get(entry, 0) + 1
        if copy in self.kept or any([is_within(copy, other) for other in self.kept]):
            return Ear(self.kept, self.answers, counts)
        kept = (*[other for other in self.kept if not is_within(other, copy)], copy)
        return Ear(kept, [answers_of(other) for other in kept], counts)


def ear_of(things):
    """The Ear that has heard these things, copies and Nones."""
    copies = [thing for thing in things if thing is not None]
    kept = kept_copies(copies)
    return Ear(kept, [answers_of(copy) for copy in kept], tally(copies))
