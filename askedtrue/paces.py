"""The pace of an endless order: how many beats it takes for so many rounds, in the long run."""

from math import gcd

from askedtrue.errors import BadRounds
from askedtrue.orders import is_count, is_sequence, is_whole
from askedtrue.roundplans import circuit_weight, crossing


class Pace:
    """So many beats for so many rounds; a circuit that is no quicker, and potentials that show that none is slower."""

    def __init__(self, beats, rounds, circuit, potentials):
        self.beats = beats
        self.rounds = rounds
        self.circuit = circuit
        self.potentials = potentials

    def __eq__(self, other):
        return (isinstance(other, Pace) and self.beats == other.beats and self.rounds == other.rounds
                and self.circuit == other.circuit and self.potentials == other.potentials)


class Step:
    """The crossing from an event to another one, each at a rest by the period: a node (name, rest)."""

    def __init__(self, source, goal, beats, lag):
        self.source = source
        self.goal = goal
        self.beats = beats
        self.lag = lag


def steps_of(roundplan):
    """The steps of all crossings from sources of events, that begin at any rest."""
    period = roundplan.net.period
    steps = []
    for goal in roundplan.rounds.names:
        for source, lag in roundplan.rounds.sources(goal):
            for rest in range(period):
                end = crossing(roundplan, source, goal, rest)
                steps.append(Step((source, rest), (goal, end % period), end - rest, lag))
    return steps


def pace(roundplan):
    """The greatest quotient of beats by rounds of all circuits."""
    names = roundplan.rounds.names
    rests = range(roundplan.net.period)
    nodes = [(name, rest) for name in names for rest in rests]
    steps = steps_of(roundplan)
    beats, rounds, circuit = 0, 1, ()
    heights, ring = heaviest(nodes, steps, beats, rounds)
    # Each ring has a greater quotient than the one ahead of it, and there are only so many.
    while ring:
        beats, rounds = lowest(sum([step.beats for step in ring]), sum([step.lag for step in ring]))
        circuit = tuple([(step.source[0], step.lag) for step in ring])
        heights, ring = heaviest(nodes, steps, beats, rounds)
    return Pace(beats, rounds, circuit, tuple([tuple([heights[name, rest] for rest in rests]) for name in names]))


def lowest(beats, rounds):
    """The quotient in lowest terms."""
    common = gcd(beats, rounds)
    return (beats // common, rounds // common)


def weight_by(step, beats, rounds):
    """How much a step takes above the pace of so many beats for so many rounds, times these rounds."""
    return rounds * step.beats - beats * step.lag


def heaviest(nodes, steps, beats, rounds):
    """The greatest weight of a row of steps to each node, and no ring; or a ring of steps above the pace."""
    heights = {node: 0 for node in nodes}
    last = {}
    # A row of steps without a ring has fewer steps than there are nodes, so its weight is found by then.
    for left in reversed(range(len(nodes))):
        changed = None
        for step in steps:
            height = heights[step.source] + weight_by(step, beats, rounds)
            if height > heights[step.goal]:
                heights[step.goal] = height
                last[step.goal] = step
                changed = step.goal
        if changed is None:
            break
        if left == 0:
            return (heights, ring_of(last, changed, len(nodes)))
    return (heights, [])


def ring_of(last, node, many):
    """The ring into which the last steps to nodes lead back from this one of so many nodes."""
    # The node was changed at the last of so many times: so far back there is a ring.
    for _ in range(many):
        node = last[node].source
    ring = [last[node]]
    while ring[-1].source != node:
        ring.append(last[ring[-1].source])
    return ring[::-1]


def pace_fault(roundplan, told):
    """The first word that tells why this is not the pace, or None."""
    if not is_count(told.beats) or not is_whole(told.rounds) or told.rounds < 1 or gcd(told.beats, told.rounds) != 1:
        return "fraction"
    if not has_quotient(roundplan, told):
        return "circuit"
    if not are_potentials(roundplan, told.potentials) or not hold_all(roundplan, told):
        return "potentials"
    return None


def has_quotient(roundplan, told):
    """Whether the circuit has the told quotient; no circuit has 0."""
    if is_sequence(told.circuit) and len(told.circuit) == 0:
        return told.beats == 0
    try:
        beats, rounds = circuit_weight(roundplan, told.circuit)
    except BadRounds:
        return False
    return beats * told.rounds == told.beats * rounds


def are_potentials(roundplan, thing):
    """Whether the thing has, for each event, as many whole numbers as the period has beats."""
    if not is_sequence(thing) or len(thing) != len(roundplan.rounds):
        return False
    return all([is_row(row, roundplan.net.period) for row in thing])


def is_row(thing, many):
    """Whether the thing is a sequence of so many whole numbers."""
    return is_sequence(thing) and len(thing) == many and all([is_whole(number) for number in thing])


def hold_all(roundplan, told):
    """Whether no potential is too small for a step."""
    rows = {name: row for name, row in zip(roundplan.rounds.names, told.potentials)}
    for step in steps_of(roundplan):
        source = rows[step.source[0]][step.source[1]]
        goal = rows[step.goal[0]][step.goal[1]]
        if goal < source + weight_by(step, told.beats, told.rounds):
            return False
    return True


def round_bound(roundplan, told, name, number):
    """What the event's earliest time in this round is never above."""
    roundplan.rounds.event(name)
    if not is_count(number):
        raise BadRounds("round", None)
    most = max(told.potentials[roundplan.rounds.names.index(name)])
    least = min([row[0] for row in told.potentials])
    late = roundplan.net.period * roundplan.budgets.total
    return (told.beats * number + most - least) // told.rounds + late
