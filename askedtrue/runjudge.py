"""What of a run is not as it must be, and how a run went."""

from askedtrue.errors import BadScript
from askedtrue.orders import is_between, is_count, is_sequence, is_whole
from askedtrue.runner import MOST_ASKS, is_ask
from askedtrue.same import is_same
from askedtrue.scripts import heard_as, script_fault
from askedtrue.turns import next_turn, turns
from askedtrue.worlds import false_ask, true_beat


class Right:
    """No action was asked falsely; for each event the beat at which it was asked with its true key, or None."""

    def __init__(self, beats):
        self.beats = beats

    def __eq__(self, other):
        return isinstance(other, Right) and self.beats == other.beats


class Wrong:
    """The first false ask of a run."""

    def __init__(self, name, beat):
        self.name = name
        self.beat = beat

    def __eq__(self, other):
        return isinstance(other, Wrong) and self.name == other.name and self.beat == other.beat


class Beyond:
    """The script of a run was beyond the budgets of this lot."""

    def __init__(self, lot):
        self.lot = lot

    def __eq__(self, other):
        return isinstance(other, Beyond) and self.lot == other.lot


def judge_run(plan, world, script, told):
    """How a run with the plan's net and order went."""
    fault = script_fault(plan.net, plan.budgets, script)
    if fault is not None and fault[0] == "beyond":
        return Beyond(fault[1])
    if fault is not None:
        raise BadScript(fault[0], fault[1])
    at = false_ask(plan.order, world, told.asks)
    if at is not None:
        return Wrong(told.asks[at][2], told.asks[at][0])
    return Right(tuple([true_beat(plan.order, world, told.asks, name) for name in plan.order.names]))


def run_fault(net, order, world, script, told):
    """The first word that tells why this is no run of some program, or None."""
    if not is_count(told.last):
        return "last"
    if not is_sent(net, told):
        return "sent"
    if not is_heard(net, script, told):
        return "heard"
    if not is_asked(net, order, world, told):
        return "asks"
    return None


def is_sent(net, told):
    """Whether exactly one packet was sent at each turn of each way up to the last beat, in order."""
    sent = told.sent
    if not is_sequence(sent) or not all([is_packet_sent(thing) for thing in sent]):
        return False
    # Counted first, so that the turns up to a last beat far too late are not listed.
    if len(sent) != sum([count_turns(net, way, told.last) for way in range(len(net.ways))]):
        return False
    right = sorted([(beat, way) for way in range(len(net.ways)) for beat in turns(net, way, told.last)])
    return [thing[:2] for thing in sent] == right


def is_packet_sent(thing):
    """Whether the thing is a tuple of two whole numbers and a packet."""
    if not isinstance(thing, tuple) or len(thing) != 3:
        return False
    return is_whole(thing[0]) and is_whole(thing[1]) and thing[2] is not None


def count_turns(net, way, last):
    """How many turns the way has up to the last beat."""
    return (last - next_turn(net, way, 0)) // net.period + 1


def is_heard(net, script, told):
    """Whether what was heard is what the script makes of what was sent."""
    due = [(beat + net.ways[way].delay, way, heard_as(script, way, beat, packet)) for beat, way, packet in told.sent]
    right = sorted([thing for thing in due if thing[0] <= told.last], key=lambda thing: thing[:2])
    return is_same(told.heard, tuple(right)) or is_same(told.heard, right)


def is_asked(net, order, world, told):
    """Whether the asks could be those of some program, and their values those of the world."""
    if not is_sequence(told.asks) or not all([is_ask_of(net, order, world, told.last, ask) for ask in told.asks]):
        return False
    places = [ask[:2] for ask in told.asks]
    if places != sorted(places):
        return False
    counts = {}
    for place in places:
        counts[place] = counts.get(place, 0) + 1
    return max(counts.values(), default=0) <= MOST_ASKS


def is_ask_of(net, order, world, last, thing):
    """Whether the thing is an ask at an end of the net up to the last beat, with the world's value."""
    if not isinstance(thing, tuple) or len(thing) != 5:
        return False
    beat, end, name, key, value = thing
    if not is_between(beat, 0, last) or not net.has_end(end) or not is_ask(order, end, (name, key)):
        return False
    return is_whole(value) and value == world.answer(name, key)
