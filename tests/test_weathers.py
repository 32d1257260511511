"""[13.1]"""

import inspect
import random

from askedtrue.errors import BadWeather
from askedtrue.weathers import Weather
from tests.helpers import Case
from tests.skies import all_mark_rows, chance_weather, ends_of_row, right_rows

STEPS = ((0, "clean", 0), (0, "lost", 1), (1, "clean", 0))


class Weathers(Case):
    def test_attributes(self):
        weather = Weather(2, [[1, "clean", 0], (0, "lost", 1), [0, "clean", 0]])
        self.assert_same(weather.states, 2)
        self.assert_same(weather.steps, STEPS)
        every = [(0, mark, 0) for mark in ("lost", "corrupted", "clean")]
        self.assert_same(Weather(1, every).steps, tuple(reversed(every)))

    def test_equal(self):
        self.assert_equals(lambda: Weather(2, list(STEPS)), [
            Weather(2, STEPS[:2] + ((1, "clean", 1),)), Weather(2, [*STEPS, (1, "lost", 1)]),
            Weather(1, [(0, "clean", 0)])])
        self.assertEqual(Weather(2, STEPS), Weather(2, [list(step) for step in reversed(STEPS)]))
        self.assertNotEqual(Weather(1, [(0, "clean", 0)]), Weather(2, [(0, "clean", 0), (1, "clean", 0)]))

    def test_later_changes_have_no_effect(self):
        steps = [list(step) for step in STEPS]
        weather = Weather(2, steps)
        steps[0][1] = "lost"
        steps.clear()
        self.assert_same(weather.steps, STEPS)
        self.assertTrue(weather.can_be(["clean"]))

    def test_wrong_states(self):
        for states in (0, 13, -1, True, False, None, "1", 1.0):
            self.assert_raises(BadWeather("states"), Weather, states, [(0, "clean", 0)])
        self.assert_raises(BadWeather("states"), Weather, 0, None)

    def test_wrong_steps(self):
        right = (0, "clean", 0)
        for steps in (None, 7, "steps", {right: 1}, {right}):
            self.assert_raises(BadWeather("steps"), Weather, 1, steps)
        for step in (None, 5, "abc", (), right[:2], (*right, 0), (1, "clean", 0), (-1, "clean", 0), (0, "clean", -1), (0, "clean", 1),
                     (0, "Clean", 0), (0, None, 0), (0, ["clean"], 0), (False, "clean", 0), (0, "clean", False),
                     ("0", "clean", 0), (0, "clean", None), (True, "lost", 0), {0: 1}):
            self.assert_raises(BadWeather("steps"), Weather, 1, [right, step])
        self.assert_raises(BadWeather("steps"), Weather, 2, [right, (0, "lost", True), (1, "lost", 0)])
        self.assert_raises(BadWeather("steps"), Weather, 1, [right, list(right)])
        self.assert_raises(BadWeather("steps"), Weather, 2, [right, right])

    def test_a_state_without_a_step(self):
        self.assert_raises(BadWeather("stuck"), Weather, 1, [])
        self.assert_raises(BadWeather("stuck"), Weather, 1, ())
        self.assert_raises(BadWeather("stuck"), Weather, 2, [(0, "clean", 1)])
        self.assert_raises(BadWeather("stuck"), Weather, 2, [(0, "clean", 0), (0, "lost", 0)])
        self.assert_raises(BadWeather("stuck"), Weather, 3, [(0, "clean", 0), (2, "lost", 1)])

    def test_greatest_number_of_states(self):
        steps = [(state, mark, goal) for state in range(12) for mark in ("clean", "lost") for goal in range(12)]
        self.assertEqual(len(Weather(12, steps).steps), 288)
        weather = Weather(12, [(state, "clean", (state + 1) % 12) for state in range(12)] + [(11, "lost", 11)])
        self.assertTrue(weather.can_be(("clean",) * 11 + ("lost",)))
        self.assertFalse(weather.can_be(("clean",) * 10 + ("lost",)))


class Rows(Case):
    def test_one_state(self):
        weather = Weather(1, [(0, "clean", 0)])
        self.assertIs(weather.can_be(()), True)
        self.assertIs(weather.can_be([]), True)
        self.assertIs(weather.can_be(["clean"] * 300), True)
        self.assertIs(weather.can_be(("clean", "lost")), False)
        self.assert_same(list(weather.each_row(0)), [()])
        self.assert_same(list(weather.each_row(2)), [("clean", "clean")])

    def test_what_is_no_mark(self):
        weather = Weather(1, [(0, "clean", 0)])
        for mark in ("bad", None, 0, ["clean"], "Clean"):
            self.assertIs(weather.can_be(["clean", mark]), False)

    def test_several_steps_with_one_mark(self):
        weather = Weather(3, [(0, "clean", 1), (0, "clean", 2), (1, "lost", 1), (2, "corrupted", 2)])
        self.assert_same(list(weather.each_row(3)), [("clean", "corrupted", "corrupted"), ("clean", "lost", "lost")])
        self.assertFalse(weather.can_be(("clean", "lost", "corrupted")))

    def test_each_row_once(self):
        weather = Weather(2, [(0, "clean", 0), (0, "clean", 1), (1, "clean", 0), (1, "clean", 1)])
        self.assert_same(list(weather.each_row(4)), [("clean",) * 4])

    def test_against_all_rows(self):
        chance = random.Random(131)
        for _ in range(120):
            weather = chance_weather(chance, 4)
            for count in range(5):
                self.assert_same(list(weather.each_row(count)), right_rows(weather, count))
            for row in all_mark_rows(4):
                can_be = bool(ends_of_row(weather, row))
                self.assertIs(weather.can_be(row), can_be)
                self.assertIs(weather.can_be(list(row)), can_be)

    def test_it_yields(self):
        self.assertTrue(inspect.isgeneratorfunction(Weather.each_row))

    def test_long_rows(self):
        weather = Weather(1, [(0, "lost", 0), (0, "clean", 0), (0, "corrupted", 0)])
        rows = list(weather.each_row(9))
        self.assertEqual(len(rows), 3 ** 9)
        self.assertEqual(rows, sorted(set(rows)))
