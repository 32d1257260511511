"""What is sure of a stream, although some of the packets heard are lost or corrupted."""

from askedtrue.errors import BadStream
from askedtrue.orders import is_between, is_count, is_sequence
from askedtrue.streams import check_width, encode, factors, is_stream
from askedtrue.wholes import plus, whole_solutions

LONGEST_HEARD = 12
LONGEST_UNDER = 8


class Fan:
    """All streams that have some packets: one of them, and the moves from it to all others."""

    def __init__(self, stream, shifts):
        self.stream = stream
        self.shifts = shifts

    def varies(self, place):
        """Whether two of the streams have unlike values at the place."""
        return any([shift[place] != 0 for shift in self.shifts])


def check_heard(width, heard, longest):
    """Raises BadStream unless these are a width and things heard, at most so many."""
    check_width(width)
    if not is_sequence(heard) or len(heard) > longest:
        raise BadStream("heard")


def check_corrupted(corrupted):
    """Raises BadStream unless so many packets can be corrupted."""
    if not is_count(corrupted):
        raise BadStream("corrupted")


def packet_of(width, thing):
    """The packet that a thing heard can be, or None if it can only be corrupted, or lost."""
    if is_stream(thing) and len(thing) == width:
        return tuple(thing)
    return None


def fits_stream(width, heard, values, corrupted):
    """Whether the stream fits the things heard with at most so many corrupted packets."""
    check_heard(width, heard, LONGEST_HEARD)
    if not is_stream(values):
        raise BadStream("values")
    check_corrupted(corrupted)
    if len(values) != len(heard):
        return False
    things = [(thing, packet) for thing, packet in zip(heard, encode(width, values)) if thing is not None]
    return len([packet for thing, packet in things if packet_of(width, thing) != packet]) <= corrupted


def fan_of(width, packets, clean):
    """The Fan of the streams that have these packets at the clean places, or None if there is none."""
    open_places = [place for place in range(len(packets)) if place not in clean]
    known = [packets[place][0] if place in clean else 0 for place in range(len(packets))]
    rows = []
    rights = []
    for place in clean:
        for number in range(1, width):
            row = [*factors(width, place, number), *[0] * (len(packets) - 1 - place)]
            rows.append([row[other] for other in open_places])
            rights.append(packets[place][number] - sum([many * value for many, value in zip(row, known)]))
    found = whole_solutions(rows, rights, len(open_places))
    if found is None:
        return None
    nothing = (0,) * len(packets)
    stream = plus(tuple(known), spread(nothing, open_places, found.point), 1)
    return Fan(stream, [spread(nothing, open_places, move) for move in found.moves])


def spread(row, places, numbers):
    """The row with these numbers at these places."""
    put = {place: number for place, number in zip(places, numbers)}
    return tuple([put.get(place, number) for place, number in enumerate(row)])


def fans_of(width, packets, choices):
    """The Fans of all these choices of clean places that have any; raises BadStream if none has."""
    fans = [fan_of(width, packets, clean) for clean in choices]
    found = [fan for fan in fans if fan is not None]
    if not found:
        raise BadStream("none")
    return found


def fitting_fans(width, heard, corrupted):
    """Fans that have exactly the streams that fit with at most so many corrupted packets."""
    packets = [packet_of(width, thing) for thing in heard]
    whole = [place for place, packet in enumerate(packets) if packet is not None]
    left = corrupted - len([thing for thing, packet in zip(heard, packets) if thing is not None and packet is None])
    # Fewer clean places let more streams, so that as many as can be are taken to be corrupted.
    choices = without(whole, min(left, len(whole))) if left >= 0 else []
    return fans_of(width, packets, choices)


def without(places, many):
    """All rows of these places without so many of them."""
    if many == 0:
        return [places]
    if many == len(places):
        return [[]]
    return [*without(places[1:], many - 1), *[[places[0], *rest] for rest in without(places[1:], many)]]


def sure_at(fans, place):
    """The value that all streams have at the place, or None."""
    values = {fan.stream[place]: True for fan in fans}
    if len(values) > 1 or any([fan.varies(place) for fan in fans]):
        return None
    return fans[0].stream[place]


def sure_places(width, heard, corrupted):
    """For each place the value that all streams that fit have there, or None."""
    check_heard(width, heard, LONGEST_HEARD)
    check_corrupted(corrupted)
    fans = fitting_fans(width, heard, corrupted)
    return tuple([sure_at(fans, place) for place in range(len(heard))])


def rivals(width, heard, corrupted, place):
    """Two streams that fit and have unlike values at the place, or None if its value is sure."""
    check_heard(width, heard, LONGEST_HEARD)
    check_corrupted(corrupted)
    if not is_between(place, 0, len(heard) - 1):
        raise BadStream("place")
    fans = fitting_fans(width, heard, corrupted)
    for fan in fans:
        if fan.varies(place):
            shift = [shift for shift in fan.shifts if shift[place] != 0][0]
            return (fan.stream, plus(fan.stream, shift, 1))
    others = [fan.stream for fan in fans if fan.stream[place] != fans[0].stream[place]]
    return (fans[0].stream, others[0]) if others else None


def sure_under(width, heard, weather):
    """What sure_places returns if instead the marks can be as the weather lets."""
    check_heard(width, heard, LONGEST_UNDER)
    packets = [packet_of(width, thing) for thing in heard]
    fans = fans_of(width, packets, least_choices(clean_choices(weather, heard, packets)))
    return tuple([sure_at(fans, place) for place in range(len(heard))])


def clean_choices(weather, heard, packets):
    """The rows of clean places that rows of marks have which can be and fit what was heard."""
    reached = [([], (0,))]
    for place, thing in enumerate(heard):
        bad = "lost" if thing is None else "corrupted"
        longer = [(clean, weather.after(states, bad)) for clean, states in reached]
        if packets[place] is not None:
            longer.extend([([*clean, place], weather.after(states, "clean")) for clean, states in reached])
        reached = [(clean, states) for clean, states in longer if states]
    return [clean for clean, _ in reached]


def least_choices(choices):
    """The choices of places that contain no other one."""
    return [clean for clean in choices if not any([other != clean and is_part(other, clean) for other in choices])]


def is_part(places, others):
    """Whether all these places are among the others."""
    return all([place in others for place in places])
