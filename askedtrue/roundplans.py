"""Rounds with a tree and budgets: the times of their events, and the weights of circuits."""

from askedtrue.errors import BadRounds
from askedtrue.lots import could, touched
from askedtrue.orders import is_between, is_sequence, is_whole
from askedtrue.plans import Plan
from askedtrue.turns import arrive

LAST_TIMED = 40
LONGEST_CIRCUIT = 80


class RoundPlan:
    """Rounds, and the tree and the budgets with which they are carried out."""

    def __init__(self, rounds, net, budgets):
        Plan(rounds.unrolled(1), net, budgets)
        self.rounds = rounds
        self.net = net
        self.budgets = budgets

    def __eq__(self, other):
        return (isinstance(other, RoundPlan) and self.rounds == other.rounds and self.net == other.net
                and self.budgets == other.budgets)

    def plan(self, many):
        """The plan of the first rounds."""
        return Plan(self.rounds.unrolled(many), self.net, self.budgets)

    def with_budgets(self, budgets):
        """The same with other budgets."""
        return RoundPlan(self.rounds, self.net, budgets)

    def route(self, source, goal):
        """The route from the end of one event to the end of another one."""
        start = self.rounds.event(source).end
        return self.net.route(start, self.rounds.event(goal).end)


def crossing(roundplan, source, goal, beat):
    """The beat at which the crossing between two events that begins at this beat ends."""
    route = roundplan.route(source, goal)
    heard = arrive(roundplan.net, route, beat)
    if roundplan.rounds.event(goal).kind == "query":
        return heard
    return heard + roundplan.net.period * could(roundplan.net, roundplan.budgets, route)


def round_times(roundplan, last):
    """For each round up to the last one the earliest times of its events."""
    if not is_between(last, 0, LAST_TIMED):
        raise BadRounds("last", None)
    marks = {}
    times = []
    for number in range(last + 1):
        beats = []
        for name in roundplan.rounds.names:
            marks[name, number] = round_marks(roundplan, marks, name, number)
            beats.append(greatest_height(roundplan, marks[name, number]))
        times.append(tuple(beats))
    return tuple(times)


def round_marks(roundplan, marks, name, number):
    """By the lots that paths to the event in this round touch, their greatest beat.

    The beats do not hold what each touched lot adds once; marks has those of all elder events.
    """
    found = {}
    for source, lag in roundplan.rounds.sources(name):
        route_lots = touched(roundplan.net, roundplan.route(source, name))
        for lots, beat in marks.get((source, number - lag), {}).items():
            both = tuple(sorted(set((*lots, *route_lots))))
            found[both] = max(crossing(roundplan, source, name, beat), found.get(both, 0))
    return found if found else {(): 0}


def greatest_height(roundplan, marks):
    """The greatest beat of these marks with what each touched lot adds once."""
    period = roundplan.net.period
    pairs = roundplan.budgets.pairs
    return max([beat + period * sum([sum(pairs[lot]) for lot in lots]) for lots, beat in marks.items()])


def circuit_weight(roundplan, circuit):
    """How many beats the second time round the circuit takes, and how many rounds it goes on."""
    if not is_circuit(roundplan, circuit):
        raise BadRounds("circuit", None)
    names = [name for name, _ in circuit]
    first = time_round(roundplan, names, 0)
    return (time_round(roundplan, names, first) - first, sum([lag for _, lag in circuit]))


def time_round(roundplan, names, beat):
    """The beat at which a time round the circuit that begins at this beat ends."""
    for source, goal in zip(names, [*names[1:], names[0]]):
        beat = crossing(roundplan, source, goal, beat)
    return beat


def is_circuit(roundplan, thing):
    """Whether the thing is a row of pairs, each of them a source of the event of the next one."""
    if not is_sequence(thing) or not 1 <= len(thing) <= LONGEST_CIRCUIT:
        return False
    if not all([is_step(roundplan, pair) for pair in thing]):
        return False
    followers = [*thing[1:], thing[0]]
    return all([tuple(pair) in roundplan.rounds.sources(other[0]) for pair, other in zip(thing, followers)])


def is_step(roundplan, thing):
    """Whether the thing is a pair of the name of an event and a whole number."""
    return is_sequence(thing) and len(thing) == 2 and thing[0] in roundplan.rounds.names and is_whole(thing[1])
