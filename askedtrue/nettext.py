"""The texts of nets."""

from askedtrue.errors import BadText
from askedtrue.nets import LONGEST_PERIOD, MOST_WAYS, Net, Way, way_fault
from askedtrue.orders import LAST_END, is_between
from askedtrue.rows import read_figure, rows_of, words_of


def net_text(net):
    """The text of a net: its ends and period, then one row for each way."""
    return "\n".join([f"net {net.ends} {net.period}", *[way_row(way) for way in net.ways]])


def way_row(way):
    """The row of a way."""
    return f"way {way.source} {way.goal} {way.phase} {way.delay} {way.lot}"


def parse_net(text):
    """The net that has this text."""
    return read_net(rows_of(text))


def read_net(rows):
    """The net that these rows tell; they are the first ones of a text."""
    figures = read_figures(rows[0], "net", 2)
    if figures is None or not is_between(figures[0], 1, LAST_END) or not is_between(figures[1], 1, LONGEST_PERIOD):
        raise BadText(0)
    ends, period = figures
    ways = []
    for number in range(1, len(rows)):
        way = read_way(rows[number], ends, period)
        if way is None or len(ways) == MOST_WAYS:
            raise BadText(number)
        ways.append(way)
    return Net(ends, period, ways)


def read_way(row, ends, period):
    """The way that a row tells, or None if it tells none that such a net can have."""
    figures = read_figures(row, "way", 5)
    if figures is None:
        return None
    way = Way(*figures)
    if way_fault(way, ends, period) is not None:
        return None
    return way


def read_figures(row, word, many):
    """The numbers behind the word of a row, or None if it is not the word and so many of them."""
    words = words_of(row)
    figures = [read_figure(other) for other in words[1:]]
    if words[0] != word or len(figures) != many or None in figures:
        return None
    return figures
