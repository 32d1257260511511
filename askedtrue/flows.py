"""Flows of packets through any net, and the fewest packets whose loss stops all of them."""

from askedtrue.crowds import Crowd
from askedtrue.errors import BadRing
from askedtrue.orders import is_between, is_count, is_sequence, is_whole
from askedtrue.turns import is_turn, next_turn

MOST_FLOWS = 9


class Many:
    """The least beat by which so many flows arrive that share no packet place, and such flows."""

    def __init__(self, beat, flows):
        self.beat = beat
        self.flows = flows

    def __eq__(self, other):
        return isinstance(other, Many) and self.beat == other.beat and self.flows == other.flows


def is_packet_place(net, thing):
    """Whether the thing is the number of a way with a beat at which it has a turn."""
    if not isinstance(thing, tuple) or len(thing) != 2:
        return False
    return net.has_way(thing[0]) and is_count(thing[1]) and is_turn(net, thing[0], thing[1])


def are_places(net, thing):
    """Whether the thing is a sequence of packet places of the net."""
    return is_sequence(thing) and all([is_packet_place(net, place) for place in thing])


def heard_at(net, place):
    """The beat at which the packet of this place is heard."""
    return place[1] + net.ways[place[0]].delay


def heard_by(net, start, beat, bad=()):
    """For each end the least beat at which a flow from start behind the beat arrives without a bad place."""
    if not net.has_end(start):
        raise BadRing("start")
    if not is_count(beat):
        raise BadRing("beat")
    if not are_places(net, bad):
        raise BadRing("bad")
    barred = {place: True for place in bad}
    beats = {start: beat}
    # A flow that is not late comes to no end twice, so it has fewer packets than there are ends.
    for _ in range(net.ends - 1):
        for number, way in enumerate(net.ways):
            if way.source in beats:
                heard = heard_at(net, first_place(net, number, beats[way.source], barred))
                beats[way.goal] = min(heard, beats.get(way.goal, heard))
    return tuple([beats.get(end) for end in range(1, net.ends + 1)])


def first_place(net, number, beat, barred):
    """The first packet place of the way behind the beat that is not barred."""
    turn = next_turn(net, number, beat)
    while (number, turn) in barred:
        turn += net.period
    return (number, turn)


def check_flow_ends(net, start, goal, beat):
    """Raises BadRing unless these are two ends and a beat."""
    if not net.has_end(start):
        raise BadRing("start")
    if not net.has_end(goal) or goal == start:
        raise BadRing("goal")
    if not is_count(beat):
        raise BadRing("beat")


def check_many(net, start, goal, beat, count):
    """Raises BadRing unless so many flows can be asked for."""
    check_flow_ends(net, start, goal, beat)
    if not is_between(count, 1, MOST_FLOWS):
        raise BadRing("count")
    if heard_by(net, start, beat)[goal - 1] is None:
        raise BadRing("apart")


def many(net, start, goal, beat, count):
    """The least beat by which so many flows arrive that share no packet place."""
    check_many(net, start, goal, beat, count)
    crowd = Crowd(net, (start, beat), goal)
    for _ in range(count):
        crowd = crowd.joined(None)
    return Many(crowd.last, crowd.parts())


def many_beats(net, start, goal, beat, count):
    """The beats that many returns for all numbers of flows up to this one."""
    crowd = Crowd(net, (start, beat), goal)
    beats = []
    for _ in range(count):
        crowd = crowd.joined(None)
        beats.append(crowd.last)
    return tuple(beats)


def many_fault(net, start, goal, beat, count, told):
    """The first word that tells why many does not return this, or None."""
    check_many(net, start, goal, beat, count)
    if not is_whole(told.beat):
        return "beat"
    if not is_sequence(told.flows) or len(told.flows) != count:
        return "flows"
    if not all([is_flow(net, start, goal, beat, told.beat, flow) for flow in told.flows]):
        return "flow"
    places = [place for flow in told.flows for place in flow]
    if len({place: True for place in places}) < len(places):
        return "shared"
    return "beat" if many(net, start, goal, beat, count).beat < told.beat else None


def is_flow(net, start, goal, beat, last, thing):
    """Whether the thing is a flow from start behind the beat to goal that arrives by the last beat."""
    if not are_places(net, thing):
        return False
    end, heard = start, beat
    for number, turn in thing:
        if net.ways[number].source != end or turn <= heard:
            return False
        end, heard = net.ways[number].goal, turn + net.ways[number].delay
    return end == goal and heard <= last


def check_cut(net, start, goal, beat, until):
    """Raises BadRing unless a cut can be asked for."""
    check_flow_ends(net, start, goal, beat)
    if not is_count(until):
        raise BadRing("until")


def cut(net, start, goal, beat, until):
    """As few packet places as can be that hold up every flow from start behind the beat to goal until then."""
    check_cut(net, start, goal, beat, until)
    crowd = Crowd(net, (start, beat), goal)
    more = crowd.joined(until)
    while more is not None:
        crowd = more
        more = crowd.joined(until)
    return tuple(sorted(crowd.border(until), key=place_rank))


def place_rank(place):
    """What packet places ascend by: turn, then way."""
    return (place[1], place[0])


def cut_fault(net, start, goal, beat, until, told):
    """The first word that tells why cut does not return this, or None."""
    check_cut(net, start, goal, beat, until)
    if not are_places(net, told) or not are_ascending(told):
        return "places"
    heard = heard_by(net, start, beat, told)[goal - 1]
    if heard is not None and heard <= until:
        return "through"
    return "few" if len(cut(net, start, goal, beat, until)) < len(told) else None


def are_ascending(places):
    """Whether the packet places ascend, none twice."""
    return all([place_rank(one) < place_rank(other) for one, other in zip(places, places[1:])])
