"""Scripts, copies, rounds and more by chance."""

import random

from askedtrue.lots import could
from askedtrue.roundplans import RoundPlan
from askedtrue.rounds import RoundEvent, Rounds
from askedtrue.scripts import make_script
from askedtrue.times import earliest
from askedtrue.turns import turns
from askedtrue.worlds import World
from tests.helpers import chance_plans


def chance_world(chance):
    return World((), chance.randint(-2, 3), chance.randint(-1, 2))


def chance_copy(chance, order, end, numbers=(-1, 0, 1, 2, 3)):
    """A copy of the end with up to two entries of each query and one of each action."""
    entries = {}
    for name in order.of_end(end):
        event = order.event(name)
        for _ in range(chance.randint(0, 2) if event.kind == "query" else chance.randint(0, 1)):
            entries[name, tuple(chance.choice(numbers) for _ in event.needs)] = chance.choice(numbers)
    return tuple(sorted((name, key, value) for (name, key), value in entries.items()))


def chance_packet(chance, plan, way):
    """What a packet could come out as: what no Teller takes at all, or copies of the ends behind the way."""
    if chance.random() < 0.2:
        return chance.choice((0, (), True, "x", [], ((1, ()),), ((True, ()),), {}, (None,) * 9))
    return tuple((end, chance_copy(chance, plan.order, end)) for end in plan.net.behind(way))


def chance_script(chance, plan, last):
    """A script with as many bad packets up to the last beat as the budgets let, here and there or all together."""
    places = [(way, beat) for way in range(len(plan.net.ways)) for beat in turns(plan.net, way, last)]
    chance.shuffle(places)
    if chance.random() < 0.5:
        first = chance.randint(0, last)
        places.sort(key=lambda place: abs(place[1] - first) // 3)
    left = [list(pair) for pair in plan.budgets]
    bad = []
    for way, beat in places:
        pair = left[plan.net.ways[way].lot]
        kinds = [kind for kind in (0, 1) if pair[kind]]
        if kinds:
            kind = chance.choice(kinds)
            pair[kind] -= 1
            bad.append(("lost", way, beat) if kind else ("corrupted", way, beat, chance_packet(chance, plan, way)))
    return make_script(plan.net, bad)


def is_small(plan):
    """Whether the plan keeps the sizes that [0.8] lets Tellers have."""
    for end in range(1, plan.net.ends + 1):
        product = 1
        for other in range(1, plan.net.ends + 1):
            product *= 1 + could(plan.net, plan.budgets, plan.net.route(other, end))
        kinds = [plan.order.event(name).kind for name in plan.order.of_end(end)]
        if product > 400 or product * kinds.count("query") + kinds.count("action") > 2000:
            return False
    return True


def last_time(plan):
    """The greatest earliest time of the plan's events."""
    return max([earliest(plan, name).beat for name in plan.order.names], default=0)


def chance_rounds(chance, many, ends):
    """Rounds of so many events at any of these ends."""
    names = chance.sample(["a", "b", "cc", "xyz", "rounds", "q", "z"], many)
    events = []
    for at, name in enumerate(names):
        choices = [(other, 0) for other in names[:at]] + [(other, 1) for other in names]
        needs = chance.sample(choices, min(len(choices), chance.randint(0, 3)))
        events.append(RoundEvent(name, chance.randint(1, ends), chance.choice(("query", "action")), tuple(needs)))
    return Rounds(events)


def chance_round_plans(seed, many, most=6):
    """So many RoundPlans by chance, the same ones for the same seed."""
    chance = random.Random(seed)
    for plan in chance_plans(seed, many, 0):
        yield RoundPlan(chance_rounds(chance, chance.randint(0, most), plan.net.ends), plan.net, plan.budgets)
