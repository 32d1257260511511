"""Plans in nets with rings, and the times of their events: the greatest of all chains and dealings of bad packets."""

from askedtrue.errors import BadRing
from askedtrue.flows import heard_by, many_beats
from askedtrue.orders import is_between, is_count, is_sequence, is_whole

MOST_BAD_IN_RUN = 8


class RingPlan:
    """An order in a net in which at most so many packets of a run are bad; if not corrupted, all of them are lost."""

    def __init__(self, order, net, bad, corrupted=True):
        if not is_between(bad, 0, MOST_BAD_IN_RUN):
            raise BadRing("bad")
        if not isinstance(corrupted, bool):
            raise BadRing("corrupted")
        if not all([net.has_end(event.end) for event in order]):
            raise BadRing("end")
        if not all([None not in heard_by(net, start, 0) for start in range(1, net.ends + 1)]):
            raise BadRing("apart")
        if corrupted and not all([event.kind == "query" for event in order]):
            raise BadRing("action")
        self.order = order
        self.net = net
        self.bad = bad
        self.corrupted = corrupted

    def __eq__(self, other):
        return (isinstance(other, RingPlan) and self.order == other.order and self.net == other.net
                and self.bad == other.bad and self.corrupted == other.corrupted)


class RingTime:
    """The beat of a chain of events, of whose crossings each is dealt so many bad packets."""

    def __init__(self, beat, chain, dealt):
        self.beat = beat
        self.chain = chain
        self.dealt = dealt

    def __eq__(self, other):
        return (isinstance(other, RingTime) and self.beat == other.beat and self.chain == other.chain
                and self.dealt == other.dealt)


class Clock:
    """The times of crossings of a plan; each is worked out once."""

    def __init__(self, plan):
        self.plan = plan
        self._beats = {}

    def crossed(self, elder, name, beat, dealt):
        """The beat at which the crossing of two events that begins at this beat ends, with so many bad packets."""
        start = self.plan.order.event(elder).end
        goal = self.plan.order.event(name).end
        if start == goal:
            return beat
        # What begins a period later ends a period later.
        rest = beat % self.plan.net.period
        if (start, goal, rest) not in self._beats:
            self._beats[start, goal, rest] = many_beats(self.plan.net, start, goal, rest, self.plan.bad + 1)
        return beat - rest + self._beats[start, goal, rest][dealt]

    def dealings(self, elder, name, left):
        """The numbers of bad packets, of so many left, that the crossing can be dealt."""
        if self.plan.order.event(elder).end == self.plan.order.event(name).end:
            return [0]
        return list(range(left + 1))


def ring_time(plan, name):
    """The greatest time of a chain to the event with a dealing."""
    plan.order.place(name)
    clock = Clock(plan)
    times = {}
    for event in plan.order:
        for left in range(plan.bad + 1):
            times[event.name, left] = greatest_time(clock, times, event, left)
    return times[name, plan.bad]


def greatest_time(clock, times, event, left):
    """The greatest time of a chain to the event with at most so many bad packets; those of its needs are known."""
    if not event.needs:
        return RingTime(0, (event.name,), ())
    found = []
    for need in event.needs:
        for dealt in clock.dealings(need, event.name, left):
            ahead = times[need, left - dealt]
            beat = clock.crossed(need, event.name, ahead.beat, dealt)
            found.append(RingTime(beat, (*ahead.chain, event.name), (*ahead.dealt, dealt)))
    return max(found, key=lambda told: told.beat)


def chain_beats(plan, chain, dealt):
    """The times of a chain with a dealing, event by event."""
    clock = Clock(plan)
    beats = [0]
    for elder, name, bad in zip(chain, chain[1:], dealt):
        beats.append(clock.crossed(elder, name, beats[-1], bad))
    return beats


def ring_time_fault(plan, name, told):
    """The first word that tells why ring_time does not return this, or None."""
    plan.order.place(name)
    if not is_chain(plan.order, name, told.chain):
        return "chain"
    if not is_dealing(plan, told.chain, told.dealt):
        return "dealt"
    if not is_whole(told.beat) or told.beat != chain_beats(plan, told.chain, told.dealt)[-1]:
        return "beat"
    return "greatest" if ring_time(plan, name).beat > told.beat else None


def is_chain(order, name, thing):
    """Whether the thing is a chain to the event."""
    if not is_sequence(thing) or len(thing) == 0 or not all([other in order.names for other in thing]):
        return False
    if order.event(thing[0]).needs or thing[-1] != name:
        return False
    return all([elder in order.event(other).needs for elder, other in zip(thing, thing[1:])])


def is_dealing(plan, chain, thing):
    """Whether the thing is a dealing of the chain."""
    if not is_sequence(thing) or len(thing) != len(chain) - 1 or not all([is_count(dealt) for dealt in thing]):
        return False
    if sum(thing) > plan.bad:
        return False
    ends = [plan.order.event(name).end for name in chain]
    return all([dealt == 0 or one != other for dealt, one, other in zip(thing, ends, ends[1:])])
