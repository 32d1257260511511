"""The greatest budgets that stand deadlines, and the least ones that do not."""

from askedtrue.errors import BadMargin
from askedtrue.grids import all_rows, count_rows
from askedtrue.margins import first_broken, inequalities
from askedtrue.orders import is_between

MOST_CAP = 6
MOST_BUDGETS = 4096


class Corner:
    """Budgets that stand, and for each number the path that lets it not be greater."""

    def __init__(self, pairs, bars):
        self.pairs = pairs
        self.bars = bars

    def __eq__(self, other):
        return isinstance(other, Corner) and self.pairs == other.pairs and self.bars == other.bars


class Breach:
    """Budgets that do not stand, and the path that tells so."""

    def __init__(self, pairs, path):
        self.pairs = pairs
        self.path = path

    def __eq__(self, other):
        return isinstance(other, Breach) and self.pairs == other.pairs and self.path == other.path


def greatest(plan, deadlines, cap):
    """The greatest budgets that stand the deadlines, every number from 0 to cap."""
    broken = broken_paths(plan, deadlines, cap)
    corners = []
    for numbers, path in broken.items():
        if path is not None:
            continue
        # What a number at the cap would break is not asked: such budgets are not among these.
        bars = [broken.get(moved(numbers, at, 1)) for at in range(len(numbers))]
        if all([number == cap or bar is not None for number, bar in zip(numbers, bars)]):
            corners.append(Corner(as_pairs(numbers), as_pairs(bars)))
    return tuple(corners)


def least_broken(plan, deadlines, cap):
    """The least budgets that do not stand the deadlines, every number from 0 to cap."""
    broken = broken_paths(plan, deadlines, cap)
    breaches = []
    for numbers, path in broken.items():
        if path is None:
            continue
        less = [broken.get(moved(numbers, at, -1)) for at in range(len(numbers))]
        if all([other is None for other in less]):
            breaches.append(Breach(as_pairs(numbers), path))
    return tuple(breaches)


def broken_paths(plan, deadlines, cap):
    """For all budgets, ascending, the path of the first inequality that they break, or None.

    Budgets are told as one row of numbers: e and f of lot 0, e and f of lot 1, and so on.
    """
    rows = inequalities(plan, deadlines)
    if not is_between(cap, 0, MOST_CAP):
        raise BadMargin("cap")
    count = 2 * len(plan.budgets)
    if count_rows(count, cap + 1) > MOST_BUDGETS:
        raise BadMargin("many")
    broken = {}
    for numbers in all_rows(count, cap + 1):
        at = first_broken(rows, as_pairs(numbers))
        broken[numbers] = None if at is None else rows[at].path
    return broken


def moved(numbers, at, step):
    """The row with the number at this place greater by the step."""
    return (*numbers[:at], numbers[at] + step, *numbers[at + 1:])


def as_pairs(row):
    """The row cut into pairs."""
    return tuple([(row[at], row[at + 1]) for at in range(0, len(row), 2)])
