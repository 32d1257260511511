"""[13.9]"""

import random

from askedtrue.errors import BadWeather
from askedtrue.weatherkinds import both, burst_weather, count_weather, either, window_weather
from askedtrue.weathers import Weather
from tests.helpers import Case
from tests.skies import MARKS, all_mark_rows, chance_weather, ends_of_row


def bursts(row, mark):
    """The turns of each burst, as long as can be."""
    found = []
    for turn, other in enumerate(row):
        if other == mark and found and found[-1][-1] == turn - 1:
            found[-1].append(turn)
        elif other == mark:
            found.append([turn])
    return found


def keeps_bursts(row, longest, gap, mark):
    rows = bursts(row, mark)
    return (all(len(burst) <= longest for burst in rows)
            and all(other[0] - one[-1] - 1 >= gap for one, other in zip(rows, rows[1:])))


class Kinds(Case):
    def check_rule(self, weather, rule, counts=(0, 1, 3, 6)):
        for count in counts:
            self.assert_same(list(weather.each_row(count)), [row for row in all_mark_rows(count) if rule(row)])

    def test_count(self):
        for mark in MARKS:
            for most in (0, 1, 2, 4):
                weather = count_weather(most, mark)
                self.assert_same(weather.states, most + 1)
                self.check_rule(weather, lambda row: row.count(mark) <= most)
        weather = count_weather(11, "lost")
        self.assert_same(weather.states, 12)
        self.assertTrue(weather.can_be(("lost",) * 11 + ("clean",) * 30))
        self.assertFalse(weather.can_be(("lost",) * 11 + ("clean",) * 30 + ("lost",)))

    def test_window(self):
        states = {1: [1, 1], 2: [1, 2, 2], 3: [1, 3, 4, 4], 4: [1, 4, 7, 8, 8]}
        for length in range(1, 5):
            for most in range(length + 1):
                mark = MARKS[(length + most) % 3]
                weather = window_weather(length, most, mark)
                self.assert_same(weather.states, states[length][most])
                self.check_rule(weather, lambda row: all(row[at:at + length].count(mark) <= most for at in range(len(row))))

    def test_burst(self):
        for longest in range(1, 5):
            for gap in range(1, 5):
                mark = MARKS[(longest + gap) % 3]
                weather = burst_weather(longest, gap, mark)
                self.assert_same(weather.states, longest + gap)
                self.check_rule(weather, lambda row: keeps_bursts(row, longest, gap, mark), (0, 1, 4, 7))
        for longest, gap in ((1, 11), (11, 1), (6, 6)):
            weather = burst_weather(longest, gap, "lost")
            self.assert_same(weather.states, 12)
            burst = ("lost",) * longest
            self.assertTrue(weather.can_be(burst + ("clean",) * gap + burst))
            self.assertFalse(weather.can_be(burst + ("clean",) * (gap - 1) + burst))

    def test_wrong_numbers_and_marks(self):
        for most in (-1, 12, True, False, None, "1"):
            self.assert_raises(BadWeather("most"), count_weather, most, "no mark")
            self.assert_raises(BadWeather("most"), window_weather, 4, most if most != 12 else 5, "no mark")
        for mark in (None, "", "Lost", "bad", 0, ["lost"]):
            self.assert_raises(BadWeather("mark"), count_weather, 0, mark)
            self.assert_raises(BadWeather("mark"), window_weather, 1, 0, mark)
            self.assert_raises(BadWeather("mark"), burst_weather, 1, 1, mark)
        for length in (0, 5, True, None, "2"):
            self.assert_raises(BadWeather("length"), window_weather, length, None, None)
        self.assert_raises(BadWeather("most"), window_weather, 1, 2, "lost")
        for longest in (0, 12, True, None):
            self.assert_raises(BadWeather("longest"), burst_weather, longest, None, None)
        for longest, gap in ((1, 12), (11, 2), (6, 7), (3, 0), (3, True), (3, None)):
            self.assert_raises(BadWeather("gap"), burst_weather, longest, gap, None)


def after(weather, states, mark):
    return frozenset(goal for state, other, goal in weather.steps if state in states and other == mark)


def endless(one, other, known, left, right, depth=12):
    """Whether rows that both weathers let go on for so long from these sets of states."""
    if not left or not right:
        return False
    if depth == 0:
        return True
    if (left, right, depth) not in known:
        known[left, right, depth] = any(
            endless(one, other, known, after(one, left, mark), after(other, right, mark), depth - 1) for mark in MARKS)
    return known[left, right, depth]


def is_common_beginning(one, other, known, row):
    left = frozenset(ends_of_row(one, row))
    return endless(one, other, known, left, frozenset(ends_of_row(other, row)))


def pairs_reached(one, other, known):
    """The pairs of [13.9], row by row; no pair is reached by longer rows alone."""
    found = set()
    rows = [()]
    while rows:
        fresh = []
        for row in rows:
            pairs = {(left, right) for left in ends_of_row(one, row) for right in ends_of_row(other, row)
                     if endless(one, other, known, frozenset((left,)), frozenset((right,)))}
            if pairs - found:
                found |= pairs
                fresh += [(*row, mark) for mark in MARKS]
        rows = fresh
    return found


class Both(Case):
    def test_against_the_words(self):
        chance = random.Random(139)
        seen = set()
        for _ in range(150):
            one, other = chance_weather(chance), chance_weather(chance)
            known = {}
            if not is_common_beginning(one, other, known, ()):
                self.assert_raises(BadWeather("never"), both, one, other)
                seen.add("never")
                continue
            pairs = pairs_reached(one, other, known)
            weather = both(one, other)
            self.assert_same(weather.states, len(pairs))
            seen.add(len(pairs))
            for count in (0, 1, 2, 4):
                self.assertEqual(list(weather.each_row(count)),
                                 [row for row in all_mark_rows(count) if is_common_beginning(one, other, known, row)])
        self.assertTrue({"never", 1, 2, 4} <= seen, seen)

    def test_a_row_that_ends_for_one(self):
        # Only one of the two ways on from the first turn lasts in both.
        one = Weather(3, [(0, "clean", 1), (0, "lost", 2), (1, "clean", 1), (2, "lost", 2)])
        other = Weather(3, [(0, "clean", 1), (0, "lost", 2), (1, "lost", 1), (2, "lost", 2)])
        self.assert_same(list(both(one, other).each_row(3)), [("lost",) * 3])
        self.assert_same(both(one, other).states, 2)

    def test_never(self):
        self.assert_raises(BadWeather("never"), both, Weather(1, [(0, "clean", 0)]), Weather(1, [(0, "lost", 0)]))

    def test_too_many(self):
        one = burst_weather(6, 6, "lost")
        self.assert_raises(BadWeather("states"), both, one, count_weather(1, "corrupted"))
        self.assert_same(both(one, window_weather(1, 1, "lost")).states, 12)
        loop = Weather(4, [(at, mark, (at + 1) % 4) for at in range(4) for mark in MARKS])
        other = Weather(3, [(at, mark, (at + 1) % 3) for at in range(3) for mark in MARKS])
        self.assert_same(both(loop, other).states, 12)
        far = Weather(5, [(at, mark, (at + 1) % 5) for at in range(5) for mark in MARKS])
        self.assert_raises(BadWeather("states"), both, far, other)

    def test_told_kinds(self):
        weather = both(count_weather(1, "corrupted"), window_weather(2, 1, "lost"))
        right = [row for row in all_mark_rows(5) if row.count("corrupted") <= 1
                 and ("lost", "lost") not in list(zip(row, row[1:]))]
        self.assert_same(list(weather.each_row(5)), right)


class Either(Case):
    def test_against_both_rows(self):
        chance = random.Random(140)
        for _ in range(60):
            one, other = chance_weather(chance), chance_weather(chance)
            weather = either(one, other)
            self.assert_same(weather.states, 1 + one.states + other.states)
            for count in (0, 1, 4):
                self.assertEqual(list(weather.each_row(count)), [row for row in all_mark_rows(count)
                                                                if ends_of_row(one, row) or ends_of_row(other, row)])

    def test_one_and_the_same(self):
        one = count_weather(2, "lost")
        self.assertEqual(list(either(one, one).each_row(5)), list(one.each_row(5)))

    def test_too_many(self):
        one = count_weather(5, "lost")
        self.assert_same(either(one, count_weather(4, "lost")).states, 12)
        self.assert_raises(BadWeather("states"), either, one, one)
