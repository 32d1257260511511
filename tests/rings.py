"""Nets with rings by chance, and plain searches in them."""

import itertools

from askedtrue.flows import many
from askedtrue.nets import Net, Way
from askedtrue.orders import Event, Order
from askedtrue.ringplans import RingPlan


def chance_net(chance, most_ends=4, most_ways=7, most_delay=2, most_period=3):
    """A net of two ends or more, tree or not."""
    ends = chance.randint(2, most_ends)
    period = chance.randint(1, most_period)
    ways = []
    for _ in range(chance.randint(0, most_ways)):
        source, goal = chance.sample(range(1, ends + 1), 2)
        ways.append(Way(source, goal, chance.randrange(period), chance.randint(0, most_delay), chance.randint(0, 3)))
    return Net(ends, period, ways)


def chance_ring(chance, most_ends=4, more=4, most_delay=1, most_period=2):
    """A net in which ways lead from each end to each other end: a ring of all ends, and up to so many ways more."""
    ends = chance.randint(1, most_ends)
    period = chance.randint(1, most_period)
    names = chance.sample(range(1, ends + 1), ends)
    pairs = list(zip(names, names[1:] + names[:1])) if ends > 1 else []
    pairs += [tuple(chance.sample(range(1, ends + 1), 2)) for _ in range(chance.randint(0, more)) if ends > 1]
    chance.shuffle(pairs)
    ways = [Way(source, goal, chance.randrange(period), chance.randint(0, most_delay), chance.randint(0, 3))
            for source, goal in pairs]
    return Net(ends, period, ways)


def chance_layers(chance):
    """A net whose ways lead on from end to end, and its first and last end: here flows get in one another's way."""
    period = chance.randint(2, 6)
    ends = chance.randint(3, 5)
    names = chance.sample(range(1, ends + 1), ends)
    ways = []
    for _ in range(chance.randint(6, 12)):
        at = chance.randint(0, ends - 2)
        goal = chance.randint(at + 1, min(ends - 1, at + 2))
        ways.append(Way(names[at], names[goal], chance.randrange(period), chance.choice((0, 0, 1, 3, 6)), 0))
    return Net(ends, period, ways), names[0], names[-1]


def places_until(net, beat, until):
    """All packet places behind the beat whose packets are heard by then."""
    return [(number, turn) for turn in range(beat + 1, until + 1) for number, way in enumerate(net.ways)
            if turn % net.period == way.phase and turn + way.delay <= until]


def plain_heard(net, start, beat, bad, last):
    """Beat by beat: for each end the first beat up to the last one at which it has heard."""
    heard = {start: beat}
    for turn in range(beat + 1, last + 1):
        for number, way in enumerate(net.ways):
            if turn % net.period == way.phase and (number, turn) not in bad and heard.get(way.source, turn) < turn:
                heard[way.goal] = min(heard.get(way.goal, turn + way.delay), turn + way.delay)
    return tuple(heard.get(end) for end in range(1, net.ends + 1))


def all_flows(net, start, goal, beat, until):
    """All flows that arrive by then, as sets of packet places, without those that hold another one."""
    rows = [((), start, beat)]
    found = []
    while rows:
        places, end, heard = rows.pop()
        if end == goal:
            found.append(frozenset(places))
            continue
        for number, turn in places_until(net, heard, until):
            if net.ways[number].source == end:
                rows.append(((*places, (number, turn)), net.ways[number].goal, turn + net.ways[number].delay))
    return [flow for flow in set(found) if not any(other < flow for other in found)]


def most_apart(flows):
    """How many of the flows share nothing at most, choice by choice."""
    if not flows:
        return 0
    first = flows[0]
    without = most_apart(flows[1:])
    return max(without, 1 + most_apart([flow for flow in flows[1:] if not flow & first]))


def plain_most(net, start, goal, beat, until):
    """How many flows that share nothing arrive by then: a row of nodes is found again and again, and turned round."""
    taken = {}

    def arcs(node):
        end, now = node
        if now < until:
            yield (end, now + 1), ("wait", end, now), 1
        for number, way in enumerate(net.ways):
            if way.source == end and (now + 1) % net.period == way.phase and now + 1 + way.delay <= until:
                if not taken.get((number, now + 1)):
                    yield (way.goal, now + 1 + way.delay), (number, now + 1), 1
            if way.goal == end and taken.get((number, now - way.delay)):
                yield (way.source, now - way.delay - 1), (number, now - way.delay), -1
        if taken.get(("wait", end, now - 1)):
            yield (end, now - 1), ("wait", end, now - 1), -1

    most = 0
    while True:
        came = {(start, beat): None}
        rows = [(start, beat)]
        last = None
        while rows and last is None:
            node = rows.pop()
            for other, thing, change in list(arcs(node)):
                if other not in came:
                    came[other] = (node, thing, change)
                    rows.append(other)
                    last = other if other[0] == goal else last
        if last is None:
            return most
        most += 1
        while came[last] is not None:
            last, thing, change = came[last]
            taken[thing] = taken.get(thing, 0) + change


def chance_queries(chance, many, ends, kinds=("query",)):
    """An order of so many events of these kinds at any of these ends, with up to two needs."""
    events = []
    for at in range(many):
        needs = chance.sample("abcdefghijkl"[:at], min(at, chance.randint(0, 2)))
        events.append(Event("abcdefghijkl"[at], chance.randint(1, ends), chance.choice(kinds), needs))
    return Order(events)


def chance_ring_plan(chance, most_events=5, most_bad=3):
    """A RingPlan with a few events; only where packets are lost alone there may be actions."""
    net = chance_ring(chance)
    corrupted = chance.random() < 0.6
    kinds = ("query",) if corrupted else ("query", "action")
    order = chance_queries(chance, chance.randint(1, most_events), net.ends, kinds)
    return RingPlan(order, net, chance.randint(0, most_bad), corrupted)


def all_chains(order, name):
    """All chains to an event."""
    needs = order.event(name).needs
    return [(name,)] if not needs else [(*chain, name) for need in needs for chain in all_chains(order, need)]


def all_dealings(plan, chain):
    """All dealings of a chain."""
    ends = [plan.order.event(name).end for name in chain]
    choices = [range(plan.bad + 1) if one != other else (0,) for one, other in zip(ends, ends[1:])]
    return [dealt for dealt in itertools.product(*choices) if sum(dealt) <= plan.bad]


def dealt_time(plan, chain, dealt):
    """The time of a chain with a dealing."""
    time = 0
    for elder, name, bad in zip(chain, chain[1:], dealt):
        start, goal = plan.order.event(elder).end, plan.order.event(name).end
        if start != goal:
            time = many(plan.net, start, goal, time, bad + 1).beat
    return time
