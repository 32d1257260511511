"""[13.2], [13.3], [13.4]"""

import random

from askedtrue.holds import Held, hold
from askedtrue.watchers import Watcher, asking, listen, watching
from askedtrue.weatherkinds import burst_weather, count_weather, window_weather
from askedtrue.weathers import Weather
from tests.helpers import Case
from tests.skies import chance_weather, right_rows

# What no sender sends: it can only be corrupted.
ODD = (True, 5, "x", [], [1], (True,), (1, 2), ((1,),), (None,), ("a",), {})


def is_value(thing):
    return isinstance(thing, tuple) and len(thing) == 1 and type(thing[0]) is int


def makes(mark, sent, thing):
    """Whether a packet with this mark can be heard as this thing."""
    if mark == "lost":
        return thing is None
    if thing is None:
        return False
    return mark == "corrupted" or isinstance(thing, tuple) and (thing == sent) and (not thing or is_value(thing))


def fitting(weather, heard):
    """All tellings (turn, value) that fit, of the values heard, and of "new" for all others."""
    values = {thing[0] for thing in heard if is_value(thing)} | {"new"}
    rows = right_rows(weather, len(heard))
    found = set()
    for turn in range(len(heard) + 1):
        for value in values:
            sent = [()] * turn + [(value,)] * (len(heard) - turn)
            if any(all(map(makes, row, sent, heard)) for row in rows):
                found.add((turn, value))
    return found


def chance_heard(chance, weather, count, value=None):
    """Things heard of some telling with any corrupted packets; or anything at all."""
    if chance.random() < 0.3:
        return [chance.choice([None, (), (1,), (2,), chance.choice(ODD)]) for _ in range(count)]
    row = chance.choice(list(weather.each_row(count)))
    turn = chance.randint(0, count)
    value = chance.choice((1, 2)) if value is None else value
    heard = []
    for at, mark in enumerate(row):
        sent = (value,) if at >= turn else ()
        bad = chance.choice([(), (1,), (2,), (-3,), sent, chance.choice(ODD)])
        heard.append({"clean": sent, "lost": None, "corrupted": bad}[mark])
    return heard


class Watchers(Case):
    def test_attributes(self):
        weather = count_weather(1, "lost")
        heard = [(), [1], None]
        watcher = Watcher(weather, heard)
        heard.append(())
        self.assert_same(watcher.heard, ((), [1], None))
        self.assertEqual(watcher.weather, weather)
        self.assert_same(Watcher(weather).heard, ())
        self.assert_same(watcher.hear((3,)).heard, ((), [1], None, (3,)))
        self.assert_same(watcher.heard, ((), [1], None))

    def test_equal(self):
        weather = count_weather(1, "lost")
        self.assert_equals(lambda: Watcher(weather, [(), None]), [
            Watcher(weather), Watcher(weather, [None, ()]), Watcher(count_weather(2, "lost"), [(), None])])
        self.assertEqual(Watcher(weather, [(), None]), Watcher(weather).hear(()).hear(None))

    def test_nothing_heard(self):
        watcher = Watcher(count_weather(0, "lost"))
        self.assertIsNone(watcher.sure_value())
        self.assertIs(watcher.may_be_untold(), True)
        self.assertIs(watcher.fits(), True)
        self.assert_same(watcher.possible_values(), ())

    def test_clean_weather(self):
        watcher = Watcher(Weather(1, [(0, "clean", 0)]), [(), (7,)])
        self.assert_same(watcher.sure_value(), 7)
        self.assertIs(watcher.may_be_untold(), False)
        self.assert_same(watcher.possible_values(), (7,))
        for thing in ((), (8,), None, (True,), [7], (7, 7)):
            spoilt = watcher.hear(thing)
            self.assertIs(spoilt.fits(), False)
            self.assertIsNone(spoilt.sure_value())
            self.assert_same(spoilt.possible_values(), ())

    def test_one_corrupted(self):
        weather = both_marks(1, 2)
        watcher = Watcher(weather, [(5,)])
        self.assertIsNone(watcher.sure_value())
        self.assertTrue(watcher.may_be_untold())
        self.assert_same(watcher.possible_values(), (5,))
        self.assert_same(watcher.hear((5,)).sure_value(), 5)
        self.assertIsNone(watcher.hear((4,)).sure_value())
        self.assert_same(watcher.hear((4,)).possible_values(), (4, 5))
        self.assert_same(watcher.hear((4,)).hear(None).hear((4,)).sure_value(), 4)
        # The corrupted one may be the first or the second.
        self.assert_same(Watcher(weather, [(5,), ()]).possible_values(), (5,))
        self.assertTrue(Watcher(weather, [(5,), ()]).may_be_untold())
        self.assert_same(Watcher(weather, [(5,), (), ()]).possible_values(), ())
        # A corrupted packet may also come out as what was sent.
        always = Weather(1, [(0, "corrupted", 0)])
        self.assert_same(Watcher(always, [(5,), (5,)]).possible_values(), (5,))
        self.assertTrue(Watcher(always, [(5,), (5,)]).may_be_untold())

    def test_against_all_tellings(self):
        chance = random.Random(132)
        seen = set()
        for _ in range(700):
            weather = chance_weather(chance, 3)
            heard = chance_heard(chance, weather, chance.randint(0, 5))
            watcher = Watcher(weather, heard)
            told = fitting(weather, heard)
            begun = {value for turn, value in told if turn < len(heard)}
            untold = any(turn == len(heard) for turn, _ in told)
            self.assertIs(watcher.fits(), bool(told))
            self.assertIs(watcher.may_be_untold(), untold)
            self.assert_same(watcher.possible_values(), tuple(sorted(begun - {"new"})))
            sure = list(begun)[0] if len(begun) == 1 and not untold and "new" not in begun else None
            self.assert_same(watcher.sure_value(), sure)
            seen.add((bool(told), untold, sure is None, len(begun) > 2))
        self.assertTrue({(False, False, True, False), (True, True, True, True), (True, False, False, False)} <= seen)

    def test_two_values_and_nothing_untold(self):
        heard = [(1,), (2,), (1,), (2,)]
        self.assertEqual(fitting(both_marks(2, 2), heard), {(0, 1), (0, 2), (1, 2)})
        watcher = Watcher(both_marks(2, 2), heard)
        self.assertIs(watcher.may_be_untold(), False)
        self.assert_same(watcher.possible_values(), (1, 2))
        self.assertIsNone(watcher.sure_value())
        self.assert_same(watcher.hear((1,)).sure_value(), 1)

    def test_step_by_step(self):
        chance = random.Random(133)
        for _ in range(100):
            weather = chance_weather(chance, 4)
            heard = chance_heard(chance, weather, 7)
            watcher = Watcher(weather)
            for at in range(8):
                whole = Watcher(weather, heard[:at])
                self.assertEqual(watcher, whole)
                for word in ("fits", "may_be_untold", "possible_values", "sure_value"):
                    self.assert_same(getattr(watcher, word)(), getattr(whole, word)())
                watcher = watcher.hear(heard[at]) if at < 7 else watcher

    def test_sure_stays_sure(self):
        chance = random.Random(134)
        found = 0
        for _ in range(400):
            weather = chance_weather(chance, 3)
            heard = chance_heard(chance, weather, 8, 9)
            sure = None
            for at in range(9):
                watcher = Watcher(weather, heard[:at])
                if watcher.fits() and sure is not None:
                    found += 1
                    self.assert_same(watcher.sure_value(), sure)
                sure = watcher.sure_value() if sure is None else sure
        self.assertGreater(found, 50)


def both_marks(corrupted, lost):
    """At most so many corrupted and so many lost, in 6 states."""
    states = [(one, other) for one in range(corrupted + 1) for other in range(lost + 1)]
    steps = []
    for one, other in states:
        for mark, goal in (("clean", (one, other)), ("corrupted", (one + 1, other)), ("lost", (one, other + 1))):
            if goal in states:
                steps.append((states.index((one, other)), mark, states.index(goal)))
    return Weather(len(states), steps)


class Receivers(Case):
    def test_listen(self):
        def receiver(memory, packet):
            memory = (memory or 0) + 1
            return memory, (memory, packet) if packet else ()
        self.assert_same(listen(receiver, [None, 5, 0, 7]), ((1, 2), (1, 5), (3, 4), (3, 7)))
        self.assert_same(listen(receiver, ()), ())

    def test_first_memory_is_none(self):
        met = []

        def receiver(memory, packet):
            met.append((memory, packet))
            return (len(met), ())
        listen(receiver, ("a", None))
        self.assertEqual(met, [(None, "a"), (1, None)])

    def test_watching_asks_the_sure_value_once_and_nothing_else(self):
        chance = random.Random(135)
        found = 0
        for _ in range(300):
            weather = chance_weather(chance, 3)
            heard = chance_heard(chance, weather, 8, 4)
            asks = listen(watching(weather), heard)
            sure = [(at, Watcher(weather, heard[:at + 1]).sure_value()) for at in range(8)]
            first = [pair for pair in sure if pair[1] is not None][:1]
            self.assert_same(asks, tuple(first))
            found += len(first)
        self.assertGreater(found, 30)

    def test_asking_asks_each_number_once(self):
        heard = [(), (3,), None, (True,), (3,), (-1,), [4], (4, 4), (0,), (-1,), (False,), "5", (1,)]
        self.assert_same(listen(asking(), heard), ((1, 3), (5, -1), (8, 0), (12, 1)))
        self.assert_same(listen(asking(), ()), ())

    def test_memories_are_not_changed(self):
        for receiver in (watching(count_weather(2, "corrupted")), asking()):
            memory, _ = receiver(None, (1,))
            for thing in ((2,), (1,), (2,)):
                self.assertEqual(receiver(memory, thing), receiver(memory, thing))

    def test_in_time_by_the_holds(self):
        """[13.6]"""
        chance = random.Random(136)
        kinds = [count_weather(2, "corrupted"), count_weather(1, "lost"), both_marks(1, 1), both_marks(1, 2),
                 burst_weather(2, 3, "corrupted"), burst_weather(3, 1, "lost"), window_weather(3, 1, "corrupted"),
                 window_weather(4, 2, "lost")]
        checked = 0
        for _ in range(400):
            weather = chance.choice(kinds + [chance_weather(chance, 4)])
            turn = chance.randint(0, 3)
            limits = {kind: hold(weather, turn, kind) for kind in ("query", "action")}
            count = turn + 1 + max([told.turns for told in limits.values() if isinstance(told, Held)], default=0)
            if count > 8:
                continue
            row = chance.choice(list(weather.each_row(count)))
            heard = []
            for at, mark in enumerate(row):
                sent = (6,) if at >= turn else ()
                heard.append({"clean": sent, "lost": None, "corrupted": chance.choice([(), (5,), (6,), (7,), "x"])}[mark])
            for kind, receiver in (("query", asking()), ("action", watching(weather))):
                asks = listen(receiver, heard)
                if kind == "action":
                    self.assertLessEqual({value for _, value in asks}, {6})
                if isinstance(limits[kind], Held):
                    checked += 1
                    self.assertIn(6, [value for at, value in asks if at <= turn + limits[kind].turns])
        self.assertGreater(checked, 150)
