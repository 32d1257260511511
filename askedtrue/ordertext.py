"""The texts of orders of events."""

from askedtrue.errors import BadText
from askedtrue.orders import KINDS, LAST_END, Event, Order, is_between, is_name
from askedtrue.rows import read_figure, rows_of, words_of


def order_text(order):
    """The text of an order: one row for each event."""
    return "\n".join([event_row(event) for event in order])


def event_row(event):
    """The row of an event: kind, name, end and needs."""
    return " ".join([event.kind, event.name, str(event.end), *event.needs])


def parse_order(text):
    """The order that has this text."""
    if text == "":
        return Order(())
    return Order(read_events(rows_of(text), 0))


def read_events(rows, start):
    """The events that the rows from number start on tell."""
    events = []
    for number in range(start, len(rows)):
        event = read_event(rows[number])
        if event is None:
            raise BadText(number)
        events.append(event)
    return events


def read_event(row):
    """The event that a row tells, or None if the row has not the form of one."""
    words = words_of(row)
    if len(words) < 3 or words[0] not in KINDS:
        return None
    end = read_figure(words[2])
    if not is_between(end, 1, LAST_END) or not all([is_name(word) for word in [words[1], *words[3:]]]):
        return None
    return Event(words[1], end, words[0], words[3:])
