"""The turns of ways, and how what is known is handed on along a route."""

from askedtrue.errors import BadNet
from askedtrue.orders import is_count, is_sequence


def check_turn(net, way, beat):
    """Raises BadNet unless these are the number of a way and a beat."""
    if not net.has_way(way):
        raise BadNet("way", None)
    if not is_count(beat):
        raise BadNet("beat", None)


def is_turn(net, way, beat):
    """Whether the way has a turn at this beat."""
    check_turn(net, way, beat)
    return beat >= 1 and beat % net.period == net.ways[way].phase


def next_turn(net, way, beat):
    """The first turn of the way behind this beat."""
    check_turn(net, way, beat)
    first = beat + 1
    return first + (net.ways[way].phase - first) % net.period


def turns(net, way, last):
    """All turns of the way from beat 1 to the last one, ascending."""
    check_turn(net, way, last)
    return tuple(range(next_turn(net, way, 0), last + 1, net.period))


def is_route(net, route):
    """Whether the thing is a sequence of numbers of ways that go on from one another."""
    if not is_sequence(route) or not all([net.has_way(number) for number in route]):
        return False
    return all([net.ways[one].goal == net.ways[other].source for one, other in zip(route, route[1:])])


def check_route(net, route):
    """Raises BadNet unless the thing is a route."""
    if not is_route(net, route):
        raise BadNet("route", None)


def hops(net, route, beat):
    """Yields (way, turn, heard) for each way of the route, beginning behind the beat."""
    check_route(net, route)
    if not is_count(beat):
        raise BadNet("beat", None)
    heard = beat
    # The route may be a list that is changed before the last hop is asked for.
    for number in tuple(route):
        turn = next_turn(net, number, heard)
        heard = turn + net.ways[number].delay
        yield (number, turn, heard)


def arrive(net, route, beat):
    """The beat at which the last way of the route is heard; the beat itself without ways."""
    last = beat
    for hop in hops(net, route, beat):
        last = hop[2]
    return last
