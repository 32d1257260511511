"""[14.3] to [14.6]"""

import itertools
import random

from askedtrue.errors import BadStream
from askedtrue.streams import confusion, encode, enough
from askedtrue.surestreams import fits_stream, rivals, sure_places, sure_under
from askedtrue.weatherkinds import burst_weather, count_weather, window_weather
from askedtrue.weathers import Weather
from tests.helpers import Case
from tests.skies import MARKS, chance_weather, right_rows

# What no sender sends, for any width: it can only be corrupted.
ODD = (5, "x", (), [], True, (True,), (1, True), [1, 2, 3, 4, 5], (None, 1), ("a", "b"), {})


def packet_like(width, thing):
    """The thing as a packet, None if it is none."""
    if isinstance(thing, (list, tuple)) and len(thing) == width and all(type(number) is int for number in thing):
        return tuple(thing)
    return None


def fits(width, heard, values, corrupted):
    bad = 0
    for thing, packet in zip(heard, encode(width, values)):
        bad += thing is not None and packet_like(width, thing) != packet
    return bad <= corrupted


def fits_under(width, heard, values, rows):
    packets = encode(width, values)
    return any(all((mark == "lost") == (thing is None) and (mark != "clean" or packet_like(width, thing) == packet)
                   for mark, thing, packet in zip(row, heard, packets)) for row in rows)


def spoilt(chance, width, packet):
    """What a corrupted packet comes out as: another one near by, what was sent, or no packet at all."""
    near = [*packet]
    near[chance.randrange(width)] += chance.choice((1, -1, 2))
    return chance.choice([tuple(near), near, packet, list(packet), chance.choice(ODD)])


def chance_heard(chance, width, values, corrupted, lost):
    packets = list(encode(width, values))
    places = chance.sample(range(len(values)), min(len(values), corrupted + lost))
    for at in places[:corrupted]:
        packets[at] = spoilt(chance, width, packets[at])
    for at in places[corrupted:]:
        packets[at] = None
    return [list(thing) if isinstance(thing, tuple) and chance.random() < 0.2 else thing for thing in packets]


class Fits(Case):
    def test_against_the_words(self):
        chance = random.Random(171)
        seen = set()
        for _ in range(400):
            width, count = chance.randint(1, 4), chance.randint(0, 7)
            values = [chance.randint(-2, 2) for _ in range(count)]
            heard = chance_heard(chance, width, values, chance.randint(0, 2), chance.randint(0, 2))
            other = [value + chance.choice((0, 0, 0, 1)) for value in values]
            for corrupted in (0, 1, 2, 7):
                right = fits(width, heard, other, corrupted)
                seen.add(right)
                self.assertIs(fits_stream(width, heard, other, corrupted), right)
                self.assertIs(fits_stream(width, tuple(heard), tuple(other), corrupted), right)
        self.assertEqual(seen, {True, False})

    def test_as_many_values_as_things(self):
        self.assertIs(fits_stream(1, (), (), 0), True)
        self.assertIs(fits_stream(1, (None,), (), 5), False)
        self.assertIs(fits_stream(1, (), (1,), 5), False)
        self.assertIs(fits_stream(1, (None,), [1] * 40, 5), False)

    def test_odd_things_are_corrupted(self):
        for thing in ODD:
            self.assertIs(fits_stream(1, (thing,), (1,), 0), False, thing)
            self.assertIs(fits_stream(1, (thing,), (1,), 1), True, thing)
        self.assertIs(fits_stream(1, ([1],), (1,), 0), True)
        self.assertIs(fits_stream(2, ([1, 1],), (1,), 0), True)

    def test_wrong(self):
        for width in (0, 5, True, None, "1"):
            self.assert_raises(BadStream("width"), fits_stream, width, None, None, None)
            self.assert_raises(BadStream("width"), sure_places, width, None, None)
            self.assert_raises(BadStream("width"), rivals, width, None, None, None)
            self.assert_raises(BadStream("width"), sure_under, width, None, None)
        for heard in (None, 5, "abc", (None,) * 13, {1: 2}):
            self.assert_raises(BadStream("heard"), fits_stream, 1, heard, None, None)
            self.assert_raises(BadStream("heard"), sure_places, 1, heard, None)
            self.assert_raises(BadStream("heard"), rivals, 1, heard, None, None)
            self.assert_raises(BadStream("heard"), sure_under, 1, heard, None)
        self.assert_raises(BadStream("heard"), sure_under, 1, (None,) * 9, None)
        for values in (None, 5, "abc", (True,), [None], ((1,),)):
            self.assert_raises(BadStream("values"), fits_stream, 1, (None,), values, None)
        for corrupted in (-1, True, False, None, "1"):
            self.assert_raises(BadStream("corrupted"), fits_stream, 1, (None,), (1,), corrupted)
            self.assert_raises(BadStream("corrupted"), sure_places, 1, (None,), corrupted)
            self.assert_raises(BadStream("corrupted"), rivals, 1, (None,), corrupted, None)
        for place in (-1, 1, True, False, None, "0"):
            self.assert_raises(BadStream("place"), rivals, 1, (5,), 0, place)
        self.assert_raises(BadStream("place"), rivals, 1, (), 0, 0)

    def test_none_fits(self):
        lone = Weather(1, [(0, "clean", 0)])
        for thing in ODD:
            self.assert_raises(BadStream("none"), sure_places, 1, (thing,), 0)
            self.assert_raises(BadStream("none"), rivals, 1, (thing,), 0, 0)
            self.assert_raises(BadStream("none"), sure_under, 1, (thing,), lone)
        self.assert_raises(BadStream("none"), sure_places, 2, ((1, 1), (1, 3)), 0)
        self.assert_raises(BadStream("none"), sure_places, 2, ((1, 2),), 0)
        self.assert_raises(BadStream("none"), sure_under, 2, ((1, 1), (1, 3)), lone)
        self.assert_raises(BadStream("none"), sure_under, 1, (None,), lone)
        self.assert_raises(BadStream("none"), sure_places, 1, (5, 5, 5), 2)


class SurePlaces(Case):
    def check_rivals(self, width, heard, corrupted, sure):
        for place in range(len(heard)):
            told = rivals(width, heard, corrupted, place)
            if sure[place] is not None:
                self.assertIsNone(told)
                continue
            self.assertIs(type(told), tuple)
            one, other = told
            self.assertEqual((type(one), type(other)), (tuple, tuple))
            self.assertNotEqual(one[place], other[place])
            for stream in told:
                self.assertTrue(fits_stream(width, heard, stream, corrupted))

    def test_against_streams_near_by(self):
        chance = random.Random(172)
        seen = set()
        for _ in range(250):
            width, count = chance.randint(1, 4), chance.randint(0, 5)
            values = [chance.randint(-1, 1) for _ in range(count)]
            corrupted = chance.randint(0, 2)
            heard = chance_heard(chance, width, values, corrupted, chance.randint(0, 2))
            sure = sure_places(width, heard, corrupted)
            self.assertIs(type(sure), tuple)
            self.assertEqual(len(sure), count)
            self.check_rivals(width, heard, corrupted, sure)
            near = [stream for stream in itertools.product((-2, -1, 0, 1, 2), repeat=count)
                    if fits(width, heard, stream, corrupted)]
            self.assertIn(tuple(values), near)
            for place in range(count):
                if sure[place] is not None:
                    self.assert_same(sure[place], values[place])
                    self.assertEqual({stream[place] for stream in near}, {sure[place]})
                seen.add(sure[place] is None)
        self.assertEqual(seen, {True, False})

    def test_any_things_heard(self):
        chance = random.Random(173)
        seen = set()
        for _ in range(250):
            width, count = chance.randint(1, 3), chance.randint(1, 4)
            heard = [chance.choice([None, chance.choice(ODD), tuple(chance.randint(0, 1) for _ in range(width)),
                                    (1,) * width]) for _ in range(count)]
            corrupted = chance.randint(0, 2)
            near = [stream for stream in itertools.product(range(-1, 3), repeat=count) if fits(width, heard, stream, corrupted)]
            try:
                sure = sure_places(width, heard, corrupted)
            except BadStream as error:
                self.assertEqual((error.what, near), ("none", []))
                seen.add("none")
                continue
            self.check_rivals(width, heard, corrupted, sure)
            for place in range(count):
                if len({stream[place] for stream in near}) > 1:
                    self.assertIsNone(sure[place])
                seen.add(sure[place] is None)
        self.assertEqual(seen, {True, False, "none"})

    def test_nothing_heard(self):
        self.assert_same(sure_places(1, (), 0), ())
        self.assert_same(sure_places(4, [], 2), ())
        self.assert_same(sure_under(2, (), count_weather(0, "lost")), ())

    def test_all_lost(self):
        self.assert_same(sure_places(3, (None,) * 6, 0), (None,) * 6)
        self.check_rivals(3, (None,) * 6, 2, (None,) * 6)
        self.assert_same(sure_places(1, (None, (4,), None), 0), (None, 4, None))

    def test_no_bad_packet(self):
        for width in range(1, 5):
            values = (3, -1, 4, 1, -5, 9, 2, 6, -5, 3, 5, 8)
            self.assert_same(sure_places(width, encode(width, values), 0), values)

    def test_a_lost_value_is_sure_by_later_packets(self):
        packets = list(encode(2, (7, 5, 3, 8)))
        self.assert_same(sure_places(2, [None, *packets[1:]], 0), (7, 5, 3, 8))
        # Nothing behind it tells of the last one.
        self.assert_same(sure_places(2, [*packets[:3], None], 0), (7, 5, 3, None))
        # One equation in whole numbers can be enough where it has one solution alone.
        self.assert_same(sure_places(4, [None, None, encode(4, (9, -9, 1))[2]], 0), (9, -9, 1))

    def test_greatest_sizes(self):
        chance = random.Random(174)
        for width in (1, 2, 4):
            for corrupted in (0, 2):
                values = [chance.randint(-10 ** 30, 10 ** 30) for _ in range(12)]
                heard = chance_heard(chance, width, values, corrupted, 6)
                sure = sure_places(width, heard, corrupted)
                self.assertTrue(all(one in (None, value) for one, value in zip(sure, values)))
                self.check_rivals(width, heard, corrupted, sure)

    def test_every_value_with_enough_packets_is_sure(self):
        """[14.6]"""
        chance = random.Random(175)
        checked = 0
        for _ in range(300):
            width, corrupted, lost = chance.randint(1, 4), chance.randint(0, 2), chance.randint(0, 3)
            count = chance.randint(1, 12)
            values = [chance.randint(-3, 3) for _ in range(count)]
            heard = chance_heard(chance, width, values, corrupted, lost)
            sure = sure_places(width, heard, corrupted)
            wanted = enough(width, corrupted, lost)
            for place in range(count):
                if wanted is not None and count - place >= wanted:
                    self.assert_same(sure[place], values[place])
                    checked += 1
        self.assertGreater(checked, 500)

    def test_fewer_are_not_enough(self):
        for width, count, corrupted, lost in ((1, 12, 0, 1), (2, 3, 1, 0), (2, 5, 1, 1), (3, 8, 2, 2), (4, 10, 2, 4)):
            told = confusion(width, count, corrupted, lost)
            self.assertIsNone(sure_places(width, told.heard, corrupted)[0])
            for stream in (told.first, told.second):
                self.assertTrue(fits_stream(width, told.heard, stream, corrupted))

    def test_nothing_is_changed(self):
        heard = [[1, 1], None, [1, 5]]
        sure_places(2, heard, 1)
        rivals(2, heard, 1, 0)
        sure_under(2, heard, count_weather(2, "corrupted"))
        self.assertEqual(heard, [[1, 1], None, [1, 5]])


class SureUnder(Case):
    def test_against_streams_near_by(self):
        chance = random.Random(176)
        seen = set()
        for _ in range(250):
            width, count = chance.randint(1, 3), chance.randint(1, 4)
            weather = chance.choice([chance_weather(chance, 3), count_weather(1, "corrupted"), burst_weather(1, 2, "lost"),
                                     window_weather(3, 1, "corrupted")])
            rows = right_rows(weather, count)
            values = [chance.randint(-1, 1) for _ in range(count)]
            packets = encode(width, values)
            heard = [{"clean": packet, "lost": None, "corrupted": spoilt(chance, width, packet)}[mark]
                     for mark, packet in zip(chance.choice(rows), packets)]
            if chance.random() < 0.3:
                heard[chance.randrange(count)] = chance.choice([None, (1,) * width, 5])
            near = [stream for stream in itertools.product(range(-2, 3), repeat=count)
                    if fits_under(width, heard, stream, rows)]
            try:
                sure = sure_under(width, heard, weather)
            except BadStream as error:
                self.assertEqual((error.what, near), ("none", []))
                seen.add("none")
                continue
            self.assertEqual(len(sure), count)
            for place in range(count):
                values = {stream[place] for stream in near}
                if len(values) > 1:
                    self.assertIsNone(sure[place])
                elif sure[place] is not None and near:
                    self.assertEqual(values, {sure[place]})
                seen.add(sure[place] is None)
        self.assertEqual(seen, {True, False, "none"})

    def test_row_by_row(self):
        """With the marks of one row, what is corrupted tells as much as what is lost."""
        chance = random.Random(178)
        seen = set()
        for _ in range(120):
            width, count = chance.randint(1, 4), chance.randint(1, 5)
            weather = chance_weather(chance, 4)
            values = [chance.randint(-2, 2) for _ in range(count)]
            row = chance.choice(right_rows(weather, count))
            heard = [{"clean": packet, "lost": None, "corrupted": spoilt(chance, width, packet)}[mark]
                     for mark, packet in zip(row, encode(width, values))]
            told = []
            for other in right_rows(weather, count):
                if any((mark == "lost") != (thing is None) for mark, thing in zip(other, heard)):
                    continue
                try:
                    told.append(sure_places(width, [thing if mark == "clean" else None for mark, thing in zip(other, heard)], 0))
                except BadStream as error:
                    self.assertEqual(error.what, "none")
            right = tuple(places[0] if len(set(places)) == 1 else None for places in zip(*told))
            self.assert_same(sure_under(width, heard, weather), right)
            seen |= {place is None for place in right}
        self.assertEqual(seen, {True, False})

    def test_as_sure_places_where_the_weather_counts(self):
        chance = random.Random(177)
        for _ in range(150):
            width, count, corrupted = chance.randint(1, 4), chance.randint(0, 8), chance.randint(0, 2)
            values = [chance.randint(-3, 3) for _ in range(count)]
            heard = chance_heard(chance, width, values, corrupted, chance.randint(0, 3))
            told = sure_under(width, heard, count_weather(corrupted, "corrupted"))
            self.assert_same(told, sure_places(width, heard, corrupted))

    def test_nothing_clean(self):
        weather = Weather(1, [(0, mark, 0) for mark in MARKS])
        self.assert_same(sure_under(4, [encode(4, (1,))[0], None] * 4, weather), (None,) * 8)
