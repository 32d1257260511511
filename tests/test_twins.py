"""[13.10]"""

import random

from askedtrue.errors import BadWeather
from askedtrue.holds import Held, held_rows, hold
from askedtrue.twins import Misled, Starved, mislead, starve
from askedtrue.watchers import asking, listen, watching
from askedtrue.weatherkinds import burst_weather, count_weather, window_weather
from askedtrue.weathers import Weather
from tests.helpers import Case
from tests.skies import MARKS, are_held, chance_weather

ALL = Weather(1, [(0, mark, 0) for mark in MARKS])
CLEAN = Weather(1, [(0, "clean", 0)])


def by_count(many):
    """Asks a value when it was heard so many times."""
    def receiver(memory, packet):
        memory = memory or ()
        if isinstance(packet, tuple) and len(packet) == 1:
            memory = (*memory, packet[0])
            if memory.count(packet[0]) == many:
                return memory, (packet[0],)
        return memory, ()
    return receiver


def by_majority(memory, packet):
    """Asks the value heard most often once it was heard twice more than any other."""
    heard, done = memory or ((), False)
    heard = (*heard, packet)
    values = [thing[0] for thing in heard if isinstance(thing, tuple) and thing]
    for value in sorted(set(values)):
        if not done and values.count(value) >= 2 + len(values) - values.count(value):
            return (heard, True), (value,)
    return (heard, done), ()


def first(memory, packet):
    if memory is None and isinstance(packet, tuple) and packet:
        return "done", packet
    return memory, ()


def newest(memory, packet):
    return None, packet if isinstance(packet, tuple) else ()


def fixed(memory, packet):
    return (memory or 0) + 1, (7,) if memory == 2 else ()


def silent(memory, packet):
    return None, ()


def other_values(memory, packet):
    memory = (memory or 0) + 1
    return memory, (memory, -memory * 1000)


def receivers(weather):
    return [by_count(1), by_count(3), by_majority, first, newest, fixed, silent, other_values, watching(weather), asking()]


def makes(mark, sent, thing):
    if mark == "lost":
        return thing is None
    return thing is not None and (mark == "corrupted" or thing == sent and type(thing) is tuple)


class Mislead(Case):
    def check(self, receiver, weather, turn, turns, values):
        told = mislead(receiver, weather, turn, turns, values)
        self.assertIs(type(told), Misled)
        self.assertEqual(len(told.rows[0]), turn + turns)
        self.assertTrue(are_held(weather, turn, "action", told.rows))
        self.assertIs(type(told.heard), tuple)
        self.assertEqual(len(told.heard), turn + turns)
        for side in (0, 1):
            sent = [()] * turn + [(values[side],)] * turns
            self.assertTrue(all(map(makes, told.rows[side], sent, told.heard)))
        asks = listen(receiver, told.heard)
        if not asks:
            self.assertEqual((told.word, told.turn, told.value, told.side), ("late", None, None, None))
        else:
            self.assertEqual((told.word, told.turn, told.value), ("false", *asks[0]))
            self.assert_same(told.side, 0 if asks[0][1] != values[0] else 1)
        return told

    def test_all_kinds_of_receivers(self):
        chance = random.Random(151)
        seen = set()
        for _ in range(60):
            weather = chance.choice([chance_weather(chance, 4), count_weather(3, "corrupted"), ALL,
                                     burst_weather(2, 2, "lost"), window_weather(4, 3, "corrupted")])
            turn, turns = chance.randint(0, 3), chance.randint(0, 5)
            values = chance.choice([(1, 2), [7, 8], (7, -7), (0, 10 ** 40), (5, 4)])
            if held_rows(weather, turn, "action", turns) is None:
                self.assert_raises(BadWeather("turns"), mislead, silent, weather, turn, turns, None)
                continue
            for receiver in receivers(weather):
                told = self.check(receiver, weather, turn, turns, values)
                seen.add((told.word, told.side))
        self.assertEqual(seen, {("late", None), ("false", 0), ("false", 1)})

    def test_watching_is_never_false(self):
        chance = random.Random(152)
        for _ in range(60):
            weather = chance_weather(chance, 4)
            turn = chance.randint(0, 4)
            told = hold(weather, turn, "action")
            turns = told.turns if isinstance(told, Held) else chance.randint(0, 9)
            self.assertEqual(self.check(watching(weather), weather, turn, turns, (3, 4)).word, "late")

    def test_nothing_heard(self):
        self.assertEqual(mislead(first, CLEAN, 0, 0, (1, 2)), Misled("late", ((), ()), (), None, None, None))
        told = mislead(other_values, CLEAN, 2, 0, (1, 2))
        self.assertEqual(told, Misled("false", (("clean",) * 2,) * 2, ((), ()), 0, 1, 1))

    def test_wrong(self):
        for turn in (-1, 201, True, None):
            self.assert_raises(BadWeather("turn"), mislead, silent, ALL, turn, None, None)
            self.assert_raises(BadWeather("turn"), starve, silent, ALL, turn, None)
        for turns in (-1, 201, True, "1"):
            self.assert_raises(BadWeather("turns"), mislead, silent, ALL, 0, turns, None)
            self.assert_raises(BadWeather("turns"), starve, silent, ALL, 0, turns)
        self.assert_raises(BadWeather("turns"), mislead, silent, CLEAN, 0, 1, None)
        self.assert_raises(BadWeather("turns"), starve, silent, CLEAN, 0, 1)
        for values in (None, 1, (), (1,), (1, 1), (1, 2, 3), (1, True), (5, True), (5, None), (None, 2), (0, False), "12", {1: 2, 2: 3}):
            self.assert_raises(BadWeather("values"), mislead, silent, ALL, 0, 1, values)

    def test_results(self):
        right = ("false", ((), ()), (), 0, 1, 1)
        others = [Misled(*right[:at], "other", *right[at + 1:]) for at in range(6)]
        self.assert_equals(lambda: Misled(*right), others)
        self.assert_equals(lambda: Starved((), (), 1), [Starved(("lost",), (), 1), Starved((), (None,), 1), Starved((), (), 2)])


class Starve(Case):
    def test_all_kinds_of_receivers(self):
        chance = random.Random(153)
        seen = set()
        for _ in range(60):
            weather = chance.choice([chance_weather(chance, 4), count_weather(3, "corrupted"), ALL,
                                     burst_weather(2, 2, "lost"), window_weather(4, 3, "corrupted")])
            turn, turns = chance.randint(0, 3), chance.randint(0, 5)
            if held_rows(weather, turn, "query", turns) is None:
                self.assert_raises(BadWeather("turns"), starve, silent, weather, turn, turns)
                continue
            for receiver in receivers(weather):
                told = starve(receiver, weather, turn, turns)
                self.assertIs(type(told), Starved)
                self.assertTrue(are_held(weather, turn, "query", (told.row,)))
                self.assertEqual(len(told.row), turn + turns)
                self.assertEqual(len(told.heard), turn + turns)
                asked = [value for _, value in listen(receiver, told.heard)]
                self.assert_same(told.value, 1 + max(map(abs, asked), default=0))
                self.assertNotIn(told.value, asked)
                seen.add(bool(asked))
                # It does not hang on the value: also another one makes the same things heard.
                for value in (told.value, told.value + 1, -5):
                    sent = [()] * turn + [(value,)] * turns
                    self.assertTrue(all(map(makes, told.row, sent, told.heard)))
        self.assertEqual(seen, {True, False})

    def test_nothing_asked(self):
        self.assertEqual(starve(silent, CLEAN, 0, 0), Starved((), (), 1))
        self.assertEqual(starve(silent, CLEAN, 1, 0), Starved(("clean",), ((),), 1))
        self.assertEqual(starve(other_values, CLEAN, 2, 0), Starved(("clean",) * 2, ((), ()), 2001))
