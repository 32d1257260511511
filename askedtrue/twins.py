"""Twins: for any receiver, a run in which it asks what is false, or is not sooner than the hold lets."""

from askedtrue.errors import BadWeather
from askedtrue.holds import held_rows
from askedtrue.orders import is_sequence, is_whole
from askedtrue.watchers import listen


class Misled:
    """Rows of two worlds that make the same things heard, and what the receiver asked of them falsely."""

    def __init__(self, word, rows, heard, turn, value, side):
        self.word = word
        self.rows = rows
        self.heard = heard
        self.turn = turn
        self.value = value
        self.side = side

    def __eq__(self, other):
        return (isinstance(other, Misled) and self.word == other.word and self.rows == other.rows
                and self.heard == other.heard and self.turn == other.turn and self.value == other.value
                and self.side == other.side)


class Starved:
    """A row that makes things heard which do not hang on the value told, and a value that is not asked then."""

    def __init__(self, row, heard, value):
        self.row = row
        self.heard = heard
        self.value = value

    def __eq__(self, other):
        return (isinstance(other, Starved) and self.row == other.row and self.heard == other.heard
                and self.value == other.value)


def mislead(receiver, weather, turn, turns, values):
    """How the receiver of an action is misled, or late, while so many turns are held."""
    rows = rows_for(weather, turn, "action", turns)
    if not are_two_values(values):
        raise BadWeather("values")
    told = tuple([heard_at(marks, at < turn, values) for at, marks in enumerate(zip(*rows))])
    asks = listen(receiver, told)
    if not asks:
        return Misled("late", rows, told, None, None, None)
    asked, value = asks[0]
    return Misled("false", rows, told, asked, value, 0 if value != values[0] else 1)


def starve(receiver, weather, turn, turns):
    """How the receiver of a query has not asked a value while so many turns are held."""
    rows = rows_for(weather, turn, "query", turns)
    # A held turn is never clean, so that no value is needed to tell what is heard.
    told = tuple([None if mark == "lost" else () for mark in rows[0]])
    asked = [abs(value) for _, value in listen(receiver, told)]
    return Starved(rows[0], told, 1 + max(asked, default=0))


def rows_for(weather, turn, kind, turns):
    """Held rows with so many held turns; raises BadWeather if there are none."""
    rows = held_rows(weather, turn, kind, turns)
    if rows is None:
        raise BadWeather("turns")
    return rows


def are_two_values(thing):
    """Whether the thing is a sequence of two unlike whole numbers."""
    if not is_sequence(thing) or len(thing) != 2:
        return False
    return is_whole(thing[0]) and is_whole(thing[1]) and thing[0] != thing[1]


def heard_at(marks, is_ahead, values):
    """What is heard at a turn with these marks, one for each of two worlds that tell these values."""
    if "lost" in marks:
        return None
    # Ahead of the telling both worlds send the same, which also a corrupted packet may come out as.
    if is_ahead or "clean" not in marks:
        return ()
    return (values[marks.index("clean")],)
