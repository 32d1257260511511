"""Streams of values, and packets of them of which some may come out bad."""

from math import comb

from askedtrue.errors import BadStream
from askedtrue.orders import is_between, is_sequence, is_whole
from askedtrue.wholes import whole_solutions

WIDEST = 4
LONGEST_STREAM = 30
LONGEST_PAIR = 12
MOST_BAD_PACKETS = 30


class Coder:
    """A stream that is given value by value, and its packets."""

    def __init__(self, width, stream=()):
        check_stream(width, stream)
        self.width = width
        self.stream = tuple(stream)

    def __eq__(self, other):
        return isinstance(other, Coder) and self.width == other.width and self.stream == other.stream

    def put(self, value):
        """The Coder with one value more."""
        return Coder(self.width, (*self.stream, value))

    def packets(self):
        """The packets of the stream so far."""
        return encode(self.width, self.stream)


class Confused:
    """Two streams that part at their first place, and things heard that both of them fit."""

    def __init__(self, first, second, heard):
        self.first = first
        self.second = second
        self.heard = heard

    def __eq__(self, other):
        return (isinstance(other, Confused) and self.first == other.first and self.second == other.second
                and self.heard == other.heard)


def check_width(width):
    """Raises BadStream unless this is a width."""
    if not is_between(width, 1, WIDEST):
        raise BadStream("width")


def check_stream(width, values):
    """Raises BadStream unless these are a width and a stream."""
    check_width(width)
    if not is_stream(values) or len(values) > LONGEST_STREAM:
        raise BadStream("values")


def is_stream(thing):
    """Whether the thing is a sequence of whole numbers."""
    return is_sequence(thing) and all([is_whole(value) for value in thing])


def factors(width, place, number):
    """By how much each value up to this place counts in this number of the packet at the place."""
    if number == 0:
        return [int(at == place) for at in range(place + 1)]
    return [comb((width - 1) * place + number - 1, (width - 1) * at) for at in range(place + 1)]


def encode(width, values):
    """The packets of a stream."""
    check_stream(width, values)
    return tuple([packet_at(width, values, place) for place in range(len(values))])


def packet_at(width, values, place):
    """The packet at this place of the stream."""
    rows = [factors(width, place, number) for number in range(width)]
    return tuple([sum([many * value for many, value in zip(row, values)]) for row in rows])


def fewest_unlike(width, count):
    """What least_unlike returns, for any number of packets."""
    return count - (count - 1) // width


def least_unlike(width, count):
    """How many of so many packets differ at least, from the place on at which two streams part."""
    check_width(width)
    if not is_between(count, 1, LONGEST_STREAM):
        raise BadStream("count")
    return fewest_unlike(width, count)


def unlike(width, count):
    """Two streams of so many values that part at place 0 and differ in as few packets as can be."""
    check_width(width)
    if not is_between(count, 1, LONGEST_PAIR):
        raise BadStream("count")
    # The difference of the two: its last packets, as many as can be, are to be 0 throughout. By the
    # determinants of [14.2] some such stream does not begin with 0.
    rows = []
    for place in range(fewest_unlike(width, count), count):
        rows.extend([[*factors(width, place, number), *[0] * (count - 1 - place)] for number in range(width)])
    moves = whole_solutions(rows, [0] * len(rows), count).moves
    return ([move for move in moves if move[0] != 0][0], (0,) * count)


def enough(width, corrupted, lost):
    """How many packets are enough to make a value sure if so many can be bad, or None if no number is."""
    check_width(width)
    check_bad(corrupted, lost)
    bad = 2 * corrupted + lost
    if width == 1:
        return 1 if bad == 0 else None
    count = 1
    while fewest_unlike(width, count) <= bad:
        count += 1
    return count


def check_bad(corrupted, lost):
    """Raises BadStream unless so many packets can be corrupted and lost."""
    if not is_between(corrupted, 0, MOST_BAD_PACKETS):
        raise BadStream("corrupted")
    if not is_between(lost, 0, MOST_BAD_PACKETS):
        raise BadStream("lost")


def confusion(width, count, corrupted, lost):
    """Two streams of so many values, and things heard that do not tell them apart."""
    first, second = unlike(width, count)
    check_bad(corrupted, lost)
    if least_unlike(width, count) > 2 * corrupted + lost:
        raise BadStream("enough")
    told = []
    unlike_ones = 0
    for one, other in zip(encode(width, first), encode(width, second)):
        told.append(confused_packet(one, other, unlike_ones, corrupted, lost))
        unlike_ones += int(one != other)
    return Confused(first, second, tuple(told))


def confused_packet(one, other, ahead, corrupted, lost):
    """What is heard of two packets behind so many unlike ones: first nothing, then the other one, then the one."""
    if one != other and ahead < lost:
        return None
    return other if ahead < lost + corrupted else one
