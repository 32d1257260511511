"""Checks, by which corrupted packets of a lot count as lost: what they are worth, and which are cheapest."""

from askedtrue.errors import BadChecks, BadPath
from askedtrue.lots import Budgets
from askedtrue.orders import is_count, is_sequence, is_whole
from askedtrue.times import earliest, greatest_marks, greatest_path, path_time, tail_height


class Checked:
    """The cheapest lots whose checks keep deadlines, their price, and why no cheaper ones do."""

    def __init__(self, lots, price, bars):
        self.lots = lots
        self.price = price
        self.bars = bars

    def __eq__(self, other):
        return (isinstance(other, Checked) and self.lots == other.lots and self.price == other.price
                and self.bars == other.bars)


class Never:
    """No checks keep the deadlines, as this path shows."""

    def __init__(self, path):
        self.path = path

    def __eq__(self, other):
        return isinstance(other, Never) and self.path == other.path


def with_checks(plan, lots):
    """The plan in whose budgets all corrupted packets of these lots count as lost."""
    if not are_lots(plan, lots):
        raise BadChecks("lots")
    pairs = [(0, corrupted + lost) if lot in lots else (corrupted, lost)
             for lot, (corrupted, lost) in enumerate(plan.budgets)]
    return plan.with_budgets(Budgets(pairs))


def are_lots(plan, thing):
    """Whether the thing is a sequence of unlike lots that have a pair."""
    if not is_sequence(thing) or not all([plan.budgets.has_lot(lot) for lot in thing]):
        return False
    return all([thing.count(lot) == 1 for lot in thing])


def check_deadlines(plan, deadlines):
    """Raises BadChecks or BadOrder unless these are deadlines of events of the plan."""
    if not is_sequence(deadlines) or not all([is_deadline(thing) for thing in deadlines]):
        raise BadChecks("deadlines")
    for name, _ in deadlines:
        plan.order.place(name)


def is_deadline(thing):
    """Whether the thing is a pair of anything and a beat."""
    return is_sequence(thing) and len(thing) == 2 and is_count(thing[1])


def check_prices(plan, prices):
    """Raises BadChecks unless these are prices, one for each lot that has a pair."""
    if not is_sequence(prices) or len(prices) != len(plan.budgets):
        raise BadChecks("prices")
    if not all([is_count(price) for price in prices]):
        raise BadChecks("prices")


def late_path(plan, deadlines, lots):
    """A path by which, with checks of these lots, some event comes behind its deadline, or None."""
    check_deadlines(plan, deadlines)
    checked = with_checks(plan, lots)
    marks = greatest_marks(checked)
    for name, beat in deadlines:
        if tail_height(checked, marks, (name,)) > beat:
            return greatest_path(checked, marks, name)
    return None


def is_late_path(plan, deadlines, lots, path):
    """Whether late_path may return this path."""
    try:
        timed = path_time(with_checks(plan, lots), path)
    except BadPath:
        return False
    return any([name == path[-1] and timed.beat > beat for name, beat in deadlines])


def all_choices(many):
    """All choices of these first lots, ascending."""
    choices = [()]
    for lot in range(many):
        choices = [*choices, *[(*choice, lot) for choice in choices]]
    return sorted(choices)


def price_of(prices, lots):
    """The price of the lots."""
    return sum([prices[lot] for lot in lots])


def barred_choices(prices, price):
    """The choices cheaper than the price that are not contained in another such choice, ascending."""
    cheaper = [choice for choice in all_choices(len(prices)) if price_of(prices, choice) < price]
    return [choice for choice in cheaper if not any([choice != other and is_part(choice, other) for other in cheaper])]


def is_part(choice, other):
    """Whether the choice is contained in the other one."""
    return all([lot in other for lot in choice])


def cheapest(plan, deadlines, prices):
    """The cheapest choice of lots whose checks keep the deadlines."""
    check_deadlines(plan, deadlines)
    check_prices(plan, prices)
    late = {choice: late_path(plan, deadlines, choice) for choice in all_choices(len(prices))}
    keeping = [(price_of(prices, choice), choice) for choice, path in late.items() if path is None]
    if not keeping:
        return Never(late[all_lots(prices)])
    price, lots = min(keeping)
    return Checked(lots, price, tuple([(choice, late[choice]) for choice in barred_choices(prices, price)]))


def all_lots(prices):
    """The choice of all lots."""
    return tuple(range(len(prices)))


def checks_fault(plan, deadlines, prices, told):
    """The first word that tells why cheapest does not return this, or None."""
    check_deadlines(plan, deadlines)
    check_prices(plan, prices)
    if isinstance(told, Never):
        return None if is_late_path(plan, deadlines, all_lots(prices), told.path) else "path"
    if not are_lots(plan, told.lots) or told.lots not in all_choices(len(prices)):
        return "lots"
    if not is_whole(told.price) or told.price != price_of(prices, told.lots):
        return "price"
    if late_path(plan, deadlines, told.lots) is not None:
        return "late"
    if not are_bars(told.bars, barred_choices(prices, told.price)):
        return "bars"
    if not all([is_late_path(plan, deadlines, choice, path) for choice, path in told.bars]):
        return "path"
    return None


def are_bars(thing, choices):
    """Whether the thing is a sequence of pairs of these choices and anything."""
    if not is_sequence(thing) or not all([is_sequence(pair) and len(pair) == 2 for pair in thing]):
        return False
    return [tuple_of(pair[0]) for pair in thing] == choices


def tuple_of(thing):
    """A list as a tuple; any other thing as it is."""
    return tuple(thing) if isinstance(thing, list) else thing


def worth(plan, name, prices):
    """The pairs (price, beat) at which a higher price brings the event an earlier time."""
    plan.order.place(name)
    check_prices(plan, prices)
    rows = [(price_of(prices, choice), earliest(with_checks(plan, choice), name).beat)
            for choice in all_choices(len(prices))]
    pairs = []
    for price, beat in sorted(rows):
        if not pairs or beat < pairs[-1][1]:
            pairs.append((price, beat))
    return tuple(pairs)
