"""Foes in nets with rings: for any program, answers and lost packets with which it is late."""

from askedtrue.errors import BadFoe
from askedtrue.flows import cut
from askedtrue.foes import Broken
from askedtrue.ringplans import chain_beats, ring_time
from askedtrue.runner import run
from askedtrue.scripts import make_script
from askedtrue.worlds import World, fresh_number, true_run


def cut_foe(plan, name, program):
    """How the program is late for the event: nobody can ask it with its true key ahead of its ring time."""
    told = ring_time(plan, name)
    if told.beat == 0:
        raise BadFoe("zero")
    script = cut_script(plan, told)
    last = told.beat - 1
    world = World()
    for elder in told.chain[:-1]:
        # Nobody who does not know this value has asked for it, nor will, since the run stays the same for them.
        asks = run(plan.net, plan.order, world, program, script, last).asks
        key = true_run(plan.order, world)[plan.order.place(elder)][1]
        world = world.with_entry(elder, key, fresh_number([world], asks))
    return Broken("late", world, script, name, last)


def cut_script(plan, told):
    """The script that loses, at each crossing of the chain, what could be heard ahead of the crossing's end."""
    lost = []
    beats = chain_beats(plan, told.chain, told.dealt)
    ends = [plan.order.event(name).end for name in told.chain]
    for at in range(1, len(ends)):
        if ends[at - 1] != ends[at]:
            places = cut(plan.net, ends[at - 1], ends[at], beats[at - 1], beats[at] - 1)
            lost.extend([("lost", way, turn) for way, turn in places])
    return make_script(plan.net, lost)
