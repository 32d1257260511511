"""Deadlines, and the inequalities that budgets must keep to stand them."""

from askedtrue.errors import BadDeadline
from askedtrue.orders import is_count, is_name, is_sequence
from askedtrue.times import crossings, paths
from askedtrue.turns import arrive


class Inequality:
    """Budgets are to keep: es times e plus fs times f, over all lots, is at most room."""

    def __init__(self, es, fs, room, path):
        self.es = es
        self.fs = fs
        self.room = room
        self.path = path

    def __eq__(self, other):
        return (isinstance(other, Inequality) and self.es == other.es and self.fs == other.fs
                and self.room == other.room and self.path == other.path)


def check_deadlines(order, deadlines):
    """Raises BadDeadline or BadOrder unless these are deadlines of events of the order."""
    if not is_sequence(deadlines):
        raise BadDeadline(None)
    for at, deadline in enumerate(deadlines):
        if not is_deadline(deadline):
            raise BadDeadline(at)
        order.place(deadline[0])


def is_deadline(thing):
    """Whether the thing is a pair of a name and a beat."""
    return is_sequence(thing) and len(thing) == 2 and is_name(thing[0]) and is_count(thing[1])


def weight(plan, path):
    """What the path asks of budgets: (es, fs, clean, path)."""
    es = [0] * len(plan.budgets)
    fs = [0] * len(plan.budgets)
    clean = 0
    for crossing in crossings(plan, path):
        clean = arrive(plan.net, crossing.ways, clean)
        for lot in crossing.sure:
            es[lot] += 1
        # A lot is in last at one crossing of all that touch it.
        for lot in crossing.last:
            es[lot] += 1
            fs[lot] += 1
    return (tuple(es), tuple(fs), clean, path)


def inequalities(plan, deadlines):
    """The inequalities of all paths to the events of the deadlines, without needless ones."""
    check_deadlines(plan.order, deadlines)
    weights = {}
    tightest = {}
    for name, beat in deadlines:
        if name not in weights:
            weights[name] = [weight(plan, path) for path in paths(plan.order, name)]
        for es, fs, clean, path in weights[name]:
            room = (beat - clean) // plan.net.period
            if (es, fs) not in tightest or room < tightest[es, fs].room:
                tightest[es, fs] = Inequality(es, fs, room, path)
    rows = list(tightest.values())
    kept = [row for row in rows if not is_needless(row, rows)]
    return tuple(sorted(kept, key=lambda row: (row.es, row.fs, row.room)))


def is_needless(row, rows):
    """Whether another row, of other sums, asks for as much as this one or for more."""
    return any([(other.es, other.fs) != (row.es, row.fs) and asks_more(other, row) for other in rows])


def asks_more(one, other):
    """Whether whatever keeps the first inequality keeps the other one, number by number."""
    if one.room > other.room:
        return False
    return all([mine >= yours for mine, yours in zip(one.es + one.fs, other.es + other.fs)])


def first_broken(rows, pairs):
    """The place of the first inequality that the budgets break, or None."""
    for at, row in enumerate(rows):
        if budget_sum(row, pairs) > row.room:
            return at
    return None


def budget_sum(row, pairs):
    """The left side of an inequality for these budgets."""
    corrupted = sum([many * pair[0] for many, pair in zip(row.es, pairs)])
    lost = sum([many * pair[1] for many, pair in zip(row.fs, pairs)])
    return corrupted + lost
