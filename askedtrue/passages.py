"""Passages: which turns a foe of an event holds on the heaviest path to it."""

from askedtrue.times import crossings, earliest
from askedtrue.turns import next_turn


class HeldTurn:
    """A turn at which the packet of a crossing does not go through; its kind tells how it is held."""

    def __init__(self, way, beat, kind):
        self.way = way
        self.beat = beat
        self.kind = kind

    def __eq__(self, other):
        return (isinstance(other, HeldTurn) and self.way == other.way and self.beat == other.beat
                and self.kind == other.kind)


class Passage:
    """A crossing to another end from the beat start to the later beat, past its held turns."""

    def __init__(self, crossing, start, held, beat):
        self.crossing = crossing
        self.start = start
        self.held = held
        self.beat = beat

    def __eq__(self, other):
        return (isinstance(other, Passage) and self.crossing == other.crossing and self.start == other.start
                and self.held == other.held and self.beat == other.beat)


def passages(plan, name):
    """The passages of the path by which the event comes last."""
    found = []
    beat = 0
    for crossing in crossings(plan, earliest(plan, name).path):
        if crossing.ways:
            passage = passage_of(plan, crossing, beat)
            found.append(passage)
            beat = passage.beat
    return tuple(found)


def passage_of(plan, crossing, start):
    """The passage of a crossing from the beat start on."""
    held = []
    beat = start
    lots = []
    for number in crossing.ways:
        way = plan.net.ways[number]
        turn = next_turn(plan.net, number, beat)
        kinds = [] if way.lot in lots else held_kinds(plan, crossing, way.lot)
        for kind in kinds:
            held.append(HeldTurn(number, turn, kind))
            turn += plan.net.period
        lots.append(way.lot)
        beat = turn + way.delay
    return Passage(crossing, start, tuple(held), beat)


def held_kinds(plan, crossing, lot):
    """The kinds of the turns held at the first way of the lot, one behind another."""
    corrupted, lost = plan.budgets.pair(lot)
    kinds = []
    if lot in crossing.sure:
        kinds.extend([1] * corrupted)
    if lot in crossing.last:
        kinds.extend([2] * corrupted + [3] * lost)
    return kinds
