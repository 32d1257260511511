"""Paths of events, the times of paths, and the earliest times of events."""

from askedtrue.errors import BadPath
from askedtrue.orders import is_sequence
from askedtrue.turns import arrive


class Crossing:
    """The step of a path from an elder event to the event behind it."""

    def __init__(self, elder, name, ways, sure, last):
        self.elder = elder
        self.name = name
        self.ways = ways
        self.sure = sure
        self.last = last

    def __eq__(self, other):
        return (isinstance(other, Crossing) and self.elder == other.elder and self.name == other.name
                and self.ways == other.ways and self.sure == other.sure and self.last == other.last)


class Timed:
    """The beat of a path: clean without any bad packet, held up by so much."""

    def __init__(self, beat, path, clean, held):
        self.beat = beat
        self.path = path
        self.clean = clean
        self.held = held

    def __eq__(self, other):
        return (isinstance(other, Timed) and self.beat == other.beat and self.path == other.path
                and self.clean == other.clean and self.held == other.held)


def paths(order, name):
    """Yields all paths to the event, ascending by places, read from the last event back."""
    sources = order.sources(name)
    if not sources:
        yield (name,)
    for source in sources:
        for path in paths(order, source):
            yield (*path, name)


def check_path(order, path):
    """Raises BadPath, with the first place that is wrong, unless the thing is a path."""
    if not is_sequence(path) or len(path) == 0:
        raise BadPath(None)
    for at, name in enumerate(path):
        if name not in order.names:
            raise BadPath(at)
        if at == 0 and order.event(name).needs:
            raise BadPath(at)
        if at > 0 and path[at - 1] not in order.sources(name):
            raise BadPath(at)


def crossings(plan, path):
    """The crossings of a path, in order."""
    check_path(plan.order, path)
    found = []
    later = []
    # Backwards, so that the lots of all later crossings are known.
    for elder, name in reversed(list(zip(path, path[1:]))):
        ways = plan.route(elder, name)
        lots = plan.touched(elder, name)
        sure = lots if is_action(plan, name) else ()
        last = tuple([lot for lot in lots if lot not in later])
        found.append(Crossing(elder, name, ways, sure, last))
        later.extend(lots)
    return tuple(reversed(found))


def is_action(plan, name):
    """Whether the event of this name is an action."""
    return plan.order.event(name).kind == "action"


def path_time(plan, path):
    """The time of a path, by its own event."""
    clean = 0
    bad = 0
    for crossing in crossings(plan, path):
        clean = arrive(plan.net, crossing.ways, clean)
        bad += sum([plan.budgets.pair(lot)[0] for lot in crossing.sure])
        bad += sum([sum(plan.budgets.pair(lot)) for lot in crossing.last])
    held = plan.net.period * bad
    return Timed(clean + held, tuple(path), clean, held)


def crossing_end(plan, elder, name, beat):
    """The beat at which the crossing that begins at this beat ends, with what an action waits for."""
    heard = arrive(plan.net, plan.route(elder, name), beat)
    if is_action(plan, name):
        return heard + plan.net.period * plan.could(elder, name)
    return heard


def moved_mark(plan, mark, elder, name):
    """The mark (lots, beat) of a path that goes on from the elder event, which has this mark."""
    lots = tuple(sorted(set((*mark[0], *plan.touched(elder, name)))))
    return (lots, crossing_end(plan, elder, name, mark[1]))


def mark_height(plan, mark):
    """The beat of a mark with a period more for each bad packet of its lots."""
    return mark[1] + plan.net.period * sum([sum(plan.budgets.pair(lot)) for lot in mark[0]])


def greatest_marks(plan):
    """For each event a dict from the lots that some path touches to the greatest beat of such paths.

    The beats do not hold what each touched lot adds once. Of two paths that touch the same lots the
    one with the greater beat stays so on every way on: arrive never falls if its beat rises, and
    rises by a period if its beat does.
    """
    found = {}
    for event in plan.order:
        sources = plan.order.sources(event.name)
        beats = {} if sources else {(): 0}
        for source in sources:
            for mark in list(found[source].items()):
                lots, beat = moved_mark(plan, mark, source, event.name)
                beats[lots] = max(beat, beats.get(lots, 0))
        found[event.name] = beats
    return found


def tail_height(plan, marks, tail):
    """The greatest beat of all paths that end with these names."""
    heights = []
    for first in marks[tail[0]].items():
        mark = first
        for elder, name in zip(tail, tail[1:]):
            mark = moved_mark(plan, mark, elder, name)
        heights.append(mark_height(plan, mark))
    return max(heights)


def greatest_path(plan, marks, name):
    """The first of the paths to the event whose beat is the greatest."""
    tail = (name,)
    sources = plan.order.sources(name)
    while sources:
        heights = [tail_height(plan, marks, (source, *tail)) for source in sources]
        source = sources[heights.index(max(heights))]
        tail = (source, *tail)
        sources = plan.order.sources(source)
    return tail


def earliest(plan, name):
    """The time of the path to the event whose beat is the greatest: its earliest time."""
    plan.order.place(name)
    return path_time(plan, greatest_path(plan, greatest_marks(plan), name))


def latest(plan):
    """The earliest of the event of the order that comes last, or None without events."""
    marks = greatest_marks(plan)
    heights = [tail_height(plan, marks, (name,)) for name in plan.order.names]
    if not heights:
        return None
    name = plan.order.names[heights.index(max(heights))]
    return path_time(plan, greatest_path(plan, marks, name))
