"""Lots of ways, and their budgets of corrupted and lost packets."""

from askedtrue.errors import BadLots
from askedtrue.orders import is_between, is_count, is_sequence
from askedtrue.turns import check_route

MOST_LOTS = 4
MOST_BAD = 8


class Budgets:
    """For each lot, how many packets can come out corrupted and how many can be lost."""

    def __init__(self, pairs):
        if not is_sequence(pairs) or len(pairs) > MOST_LOTS:
            raise BadLots("pairs", None)
        for lot, pair in enumerate(pairs):
            if not is_pair(pair):
                raise BadLots("pair", lot)
        self.pairs = tuple([tuple(pair) for pair in pairs])
        if self.total > MOST_BAD:
            raise BadLots("many", None)

    def __eq__(self, other):
        return isinstance(other, Budgets) and self.pairs == other.pairs

    def __iter__(self):
        return iter(self.pairs)

    def __len__(self):
        return len(self.pairs)

    @property
    def total(self):
        """The sum of all numbers."""
        return sum([corrupted + lost for corrupted, lost in self.pairs])

    def has_lot(self, lot):
        """Whether this is the number of a lot that has a pair."""
        return is_between(lot, 0, len(self.pairs) - 1)

    def pair(self, lot):
        """The pair of a lot."""
        if not self.has_lot(lot):
            raise BadLots("lot", None)
        return self.pairs[lot]

    def with_pair(self, lot, pair):
        """The budgets with another pair for this lot."""
        if not self.has_lot(lot):
            raise BadLots("lot", None)
        return Budgets([*self.pairs[:lot], pair, *self.pairs[lot + 1:]])

    def covers(self, other):
        """Whether the other budgets have as many lots and nowhere a greater number."""
        if len(other.pairs) != len(self.pairs):
            return False
        return all([mine[0] >= pair[0] and mine[1] >= pair[1] for mine, pair in zip(self.pairs, other.pairs)])


def is_pair(thing):
    """Whether the thing is a sequence of two whole numbers of 0 or more."""
    return is_sequence(thing) and len(thing) == 2 and is_count(thing[0]) and is_count(thing[1])


def touched(net, route):
    """The lots of the ways of a route, ascending."""
    check_route(net, route)
    return tuple(sorted({net.ways[number].lot for number in route}))


def could(net, budgets, route):
    """How many packets of the route can come out corrupted at most."""
    corrupted = 0
    for lot in touched(net, route):
        if not budgets.has_lot(lot):
            raise BadLots("lot", lot)
        corrupted += budgets.pair(lot)[0]
    return corrupted
