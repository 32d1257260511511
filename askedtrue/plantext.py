"""The texts of plans."""

from askedtrue.errors import BadText
from askedtrue.lots import MOST_BAD, MOST_LOTS, Budgets
from askedtrue.nettext import net_text, read_figures, read_net
from askedtrue.orders import Order
from askedtrue.ordertext import event_row, read_events
from askedtrue.plans import Plan
from askedtrue.rows import rows_of, words_of


def plan_text(plan):
    """The text of a plan: the rows of its net, its lots and its order."""
    lots = [f"lot {lot} {corrupted} {lost}" for lot, (corrupted, lost) in enumerate(plan.budgets)]
    return "\n".join([net_text(plan.net), *lots, *[event_row(event) for event in plan.order]])


def parse_plan(text):
    """The plan that has this text."""
    rows = rows_of(text)
    lots = end_of_block(rows, 1, "way")
    events = end_of_block(rows, lots, "lot")
    net = read_net(rows[:lots])
    budgets = read_budgets(rows[:events], lots)
    order = Order(read_events(rows, events))
    return Plan(order, net, budgets)


def end_of_block(rows, start, word):
    """The number of the first row from start on that does not begin with the word."""
    end = start
    while end < len(rows) and words_of(rows[end])[0] == word:
        end += 1
    return end


def read_budgets(rows, start):
    """The budgets that the rows from number start on tell."""
    pairs = []
    left = MOST_BAD
    for number in range(start, len(rows)):
        figures = read_figures(rows[number], "lot", 3)
        if figures is None or figures[0] != len(pairs) or len(pairs) == MOST_LOTS:
            raise BadText(number)
        pairs.append(figures[1:])
        left -= sum(figures[1:])
        if left < 0:
            raise BadText(number)
    return Budgets(pairs)
