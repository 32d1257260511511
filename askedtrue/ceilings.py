"""Ceilings: a paper that no path is heavier than told."""

from askedtrue.errors import BadPath
from askedtrue.orders import is_count, is_sequence
from askedtrue.times import crossing_end, greatest_marks, mark_height, moved_mark, path_time


def ceilings(plan):
    """The ceilings with one mark for each set of lots that some path touches exactly."""
    return tuple([(name, tuple(sorted(beats.items()))) for name, beats in greatest_marks(plan).items()])


def ceilings_fault(plan, marked):
    """Why the thing is no ceilings of the plan, as (what, name), or None."""
    if not has_shape(plan, marked):
        return ("shape", None)
    marks = {name: rows for name, rows in marked}
    for name in plan.order.names:
        for source in plan.order.sources(name):
            if not covers_all(plan, marks, source, name):
                return ("step", name)
    return None


def has_shape(plan, marked):
    """Whether the thing is a sequence of one pair (name, marks) for each event, in order."""
    names = plan.order.names
    if not is_sequence(marked) or len(marked) != len(names):
        return False
    return all([is_row(plan, name, pair) for name, pair in zip(names, marked)])


def is_row(plan, name, thing):
    """Whether the thing is a pair of this name and a sequence of at least one mark."""
    if not is_sequence(thing) or len(thing) != 2 or thing[0] != name:
        return False
    if not is_sequence(thing[1]) or len(thing[1]) == 0:
        return False
    return all([is_mark(plan, mark) for mark in thing[1]])


def is_mark(plan, thing):
    """Whether the thing is a pair of ascending lots that have pairs, and a beat."""
    if not is_sequence(thing) or len(thing) != 2 or not is_sequence(thing[0]):
        return False
    lots = thing[0]
    if not all([plan.budgets.has_lot(lot) for lot in lots]):
        return False
    return all([one < other for one, other in zip(lots, lots[1:])]) and is_count(thing[1])


def covers_all(plan, marks, source, name):
    """Whether each mark of the source is covered by a mark of the event."""
    for mark in marks[source]:
        moved = moved_mark(plan, mark, source, name)
        if not any([covers(other, moved) for other in marks[name]]):
            return False
    return True


def covers(mark, other):
    """Whether the mark has all lots of the other one and no lower beat."""
    return all([lot in mark[0] for lot in other[0]]) and mark[1] >= other[1]


def times_fault(plan, name, timed, marked):
    """Why the time is not the earliest time of the event, as the ceilings show it, or None."""
    plan.order.place(name)
    word = path_word(plan, name, timed)
    if word is not None:
        return word
    if ceilings_fault(plan, marked) is not None:
        return "ceilings"
    marks = marked[plan.order.place(name)][1]
    if any([mark_height(plan, mark) > timed.beat for mark in marks]):
        return "above"
    return None


def path_word(plan, name, timed):
    """Why the time is not that of a path to the event, or None."""
    try:
        right = path_time(plan, timed.path)
    except BadPath:
        return "path"
    if timed.path[-1] != name:
        return "path"
    if timed != right:
        return "sum"
    return None
