"""Ways between ends, and nets of them."""

from askedtrue.errors import BadNet
from askedtrue.orders import LAST_END, is_between, is_sequence

LONGEST_PERIOD = 6
MOST_WAYS = 12
LONGEST_DELAY = 6
LAST_LOT = 3


class Way:
    """A way from the end source to the end goal; nothing is checked."""

    def __init__(self, source, goal, phase, delay, lot):
        self.source = source
        self.goal = goal
        self.phase = phase
        self.delay = delay
        self.lot = lot

    def __eq__(self, other):
        return (isinstance(other, Way) and self.source == other.source and self.goal == other.goal
                and self.phase == other.phase and self.delay == other.delay and self.lot == other.lot)


class Net:
    """Ends from 1 on, a period, and the ways between the ends."""

    def __init__(self, ends, period, ways):
        if not is_between(ends, 1, LAST_END):
            raise BadNet("ends", None)
        if not is_between(period, 1, LONGEST_PERIOD):
            raise BadNet("period", None)
        if not are_ways(ways):
            raise BadNet("ways", None)
        for number, way in enumerate(ways):
            word = way_fault(way, ends, period)
            if word is not None:
                raise BadNet(word, number)
        self.ends = ends
        self.period = period
        self.ways = tuple(ways)
        self._routes = tree_routes(ends, self.ways)

    def __eq__(self, other):
        return (isinstance(other, Net) and self.ends == other.ends and self.period == other.period
                and self.ways == other.ways)

    @property
    def is_tree(self):
        """Whether there is exactly one route between any two ends, and back by the same ends."""
        return self._routes is not None

    def has_end(self, end):
        """Whether this is the number of an end."""
        return is_between(end, 1, self.ends)

    def has_way(self, way):
        """Whether this is the number of a way."""
        return is_between(way, 0, len(self.ways) - 1)

    def route(self, start, goal):
        """The numbers of the ways from one end of a tree to another one."""
        if self._routes is None:
            raise BadNet("tree", None)
        if not self.has_end(start):
            raise BadNet("start", None)
        if not self.has_end(goal):
            raise BadNet("goal", None)
        return self._routes[start, goal]

    def behind(self, way):
        """The ends on the source's side of a way of a tree, ascending."""
        if self._routes is None:
            raise BadNet("tree", None)
        if not self.has_way(way):
            raise BadNet("way", None)
        goal = self.ways[way].goal
        return tuple([end for end in range(1, self.ends + 1) if way in self._routes[end, goal]])

    def ways_from(self, end):
        """The numbers of the ways with this source, ascending."""
        if not self.has_end(end):
            raise BadNet("end", None)
        return tuple([number for number, way in enumerate(self.ways) if way.source == end])

    def ways_to(self, end):
        """The numbers of the ways with this goal, ascending."""
        if not self.has_end(end):
            raise BadNet("end", None)
        return tuple([number for number, way in enumerate(self.ways) if way.goal == end])

    def with_phases(self, phases):
        """The net with these phases, one for each way."""
        if not is_sequence(phases) or len(phases) != len(self.ways):
            raise BadNet("phases", None)
        ways = [Way(way.source, way.goal, phase, way.delay, way.lot) for way, phase in zip(self.ways, phases)]
        return Net(self.ends, self.period, ways)

    def with_lots(self, lots):
        """The net with these lots, one for each way."""
        if not is_sequence(lots) or len(lots) != len(self.ways):
            raise BadNet("lots", None)
        ways = [Way(way.source, way.goal, way.phase, way.delay, lot) for way, lot in zip(self.ways, lots)]
        return Net(self.ends, self.period, ways)


def are_ways(thing):
    """Whether the thing is a sequence of as many ways as a net can have."""
    if not is_sequence(thing) or len(thing) > MOST_WAYS:
        return False
    return all([isinstance(way, Way) for way in thing])


def way_fault(way, ends, period):
    """The first word that tells why a net of these ends and this period cannot have the way."""
    if not is_between(way.source, 1, ends):
        return "source"
    if not is_between(way.goal, 1, ends) or way.goal == way.source:
        return "goal"
    if not is_between(way.phase, 0, period - 1):
        return "phase"
    if not is_between(way.delay, 0, LONGEST_DELAY):
        return "delay"
    if not is_between(way.lot, 0, LAST_LOT):
        return "lot"
    return None


def tree_routes(ends, ways):
    """All routes of a tree, by (start, goal); None if the ways make no tree."""
    pairs = [(way.source, way.goal) for way in ways]
    if len(pairs) != 2 * (ends - 1) or len(set(pairs)) != len(pairs):
        return None
    if not all([(goal, source) in pairs for source, goal in pairs]):
        return None
    routes = {}
    for start in range(1, ends + 1):
        found = routes_from(start, ways)
        # So many pairs of ways and back make a tree exactly if they lead everywhere.
        if len(found) < ends:
            return None
        for goal, route in found.items():
            routes[start, goal] = route
    return routes


def routes_from(start, ways):
    """One route from start to each end that can be reached, by end."""
    found = {start: ()}
    # A route without a repeated end has no more ways than there are.
    for _ in range(len(ways)):
        for number, way in enumerate(ways):
            if way.source in found and way.goal not in found:
                found[way.goal] = (*found[way.source], number)
    return found
