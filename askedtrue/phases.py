"""The phases of a timetable with which events come soonest."""

from askedtrue.errors import BadMargin
from askedtrue.grids import all_rows, count_rows
from askedtrue.orders import is_sequence
from askedtrue.times import greatest_marks, mark_height

MOST_ROWS = 256


class Phased:
    """A row of phases, and the beat by which all that was asked for comes with it."""

    def __init__(self, phases, beat):
        self.phases = phases
        self.beat = beat

    def __eq__(self, other):
        return isinstance(other, Phased) and self.phases == other.phases and self.beat == other.beat


def best_phases(plan, names):
    """The least row of phases with which the greatest earliest time of the events is least."""
    if not is_sequence(names) or len(names) == 0:
        raise BadMargin("names")
    for name in names:
        plan.order.place(name)
    ways = len(plan.net.ways)
    if count_rows(ways, plan.net.period) > MOST_ROWS:
        raise BadMargin("many")
    best = None
    for phases in all_rows(ways, plan.net.period):
        beat = greatest_time(plan.with_net(plan.net.with_phases(phases)), names)
        if best is None or beat < best.beat:
            best = Phased(phases, beat)
    return best


def greatest_time(plan, names):
    """The greatest earliest time of these events."""
    marks = greatest_marks(plan)
    return max([mark_height(plan, mark) for name in names for mark in marks[name].items()])
