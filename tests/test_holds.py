"""[13.5] to [13.8]"""

import random

from askedtrue.errors import BadWeather
from askedtrue.holds import Endless, Held, heights, held_rows, hold, hold_fault, joint_states, worst_hold
from askedtrue.weatherkinds import burst_weather, count_weather, window_weather
from askedtrue.weathers import Weather
from tests.helpers import Case
from tests.skies import MARKS, all_held_rows, are_held, chance_weather, ends_of_row, is_held

CLEAN = Weather(1, [(0, "clean", 0)])
ALL = Weather(1, [(0, mark, 0) for mark in MARKS])
KINDS = ("query", "action")


def all_joint_states(weather, kind):
    if kind == "query":
        return [(one,) for one in range(weather.states)]
    return [(one, other) for one in range(weather.states) for other in range(weather.states)]


def joint_goals(weather, state, held):
    """All joint states to which a turn leads, by way of all choices of steps."""
    found = set()
    first = [step for step in weather.steps if step[0] == state[0]]
    if len(state) == 1:
        return {(goal,) for _, mark, goal in first if not held or is_held((mark,))}
    for _, one, goal in first:
        for _, other, last in [step for step in weather.steps if step[0] == state[1]]:
            if is_held((one, other)) or not held and (one == "lost") == (other == "lost"):
                found.add((goal, last))
    return found


def height_of(weather, state, kind):
    """How many turns can be held from a joint state on: walked further than without a ring."""
    states = {state}
    for turns in range(len(all_joint_states(weather, kind)) + 1):
        states = {goal for one in states for goal in joint_goals(weather, one, True)}
        if not states:
            return turns
    return None


def reached(weather, turn, kind):
    states = {(0,) * (1 if kind == "query" else 2)}
    for _ in range(turn):
        states = {goal for one in states for goal in joint_goals(weather, one, False)}
    return states


def turn_hold(weather, turn, kind):
    """The greatest number of held turns, None for no greatest."""
    found = [height_of(weather, state, kind) for state in reached(weather, turn, kind)]
    return None if None in found else max(found)


class HeldRows(Case):
    def test_against_all_rows(self):
        chance = random.Random(141)
        seen = set()
        for _ in range(150):
            weather = chance_weather(chance, 3)
            for kind in KINDS:
                turn, turns = chance.randint(0, 2), chance.randint(0, 3)
                rows = held_rows(weather, turn, kind, turns)
                every = all_held_rows(weather, turn, kind, turns)
                seen.add((kind, rows is None))
                if rows is None:
                    self.assertEqual(every, [])
                else:
                    self.assertIn(rows, every)
                    self.assertIs(type(rows[0]), tuple)
        self.assertEqual(len(seen), 4)

    def test_no_turns(self):
        self.assert_same(held_rows(CLEAN, 0, "query", 0), ((),))
        self.assert_same(held_rows(CLEAN, 0, "action", 0), ((), ()))
        self.assert_same(held_rows(CLEAN, 1, "action", 0), (("clean",), ("clean",)))
        self.assertIsNone(held_rows(CLEAN, 1, "action", 1))

    def test_long(self):
        rows = held_rows(ALL, 200, "action", 200)
        self.assertTrue(are_held(ALL, 200, "action", rows))
        self.assertEqual(len(rows[0]), 400)

    def test_wrong(self):
        for turn in (-1, 201, True, None, "1"):
            self.assert_raises(BadWeather("turn"), held_rows, CLEAN, turn, None, None)
            self.assert_raises(BadWeather("turn"), hold, CLEAN, turn, None)
            self.assert_raises(BadWeather("turn"), hold_fault, CLEAN, turn, None, None)
            self.assert_raises(BadWeather("turn"), joint_states, CLEAN, turn, None)
        for kind in ("Query", None, 0, ["query"], ""):
            self.assert_raises(BadWeather("kind"), held_rows, CLEAN, 0, kind, None)
            self.assert_raises(BadWeather("kind"), hold, CLEAN, 0, kind)
            self.assert_raises(BadWeather("kind"), hold_fault, CLEAN, 0, kind, None)
            self.assert_raises(BadWeather("kind"), joint_states, CLEAN, 0, kind)
            self.assert_raises(BadWeather("kind"), heights, CLEAN, kind)
            self.assert_raises(BadWeather("kind"), worst_hold, CLEAN, kind)
        for turns in (-1, 201, False, None):
            self.assert_raises(BadWeather("turns"), held_rows, CLEAN, 0, "query", turns)


class Holds(Case):
    def check_endless(self, weather, turn, kind, told):
        self.assertTrue(are_held(weather, turn, kind, told.rows))
        self.assertGreater(len(told.rings[0]), 0)
        for times in (1, 2, 5):
            rows = [(*row, *ring * times) for row, ring in zip(told.rows, told.rings)]
            self.assertTrue(are_held(weather, turn, kind, rows))
            self.assertTrue(all(is_held(marks) for marks in zip(*told.rings)))

    def test_against_all_rows(self):
        chance = random.Random(142)
        seen = set()
        for _ in range(250):
            weather = chance_weather(chance, 4, chance.randint(0, 5))
            turn = chance.randint(0, 3)
            for kind in KINDS:
                told = hold(weather, turn, kind)
                right = turn_hold(weather, turn, kind)
                seen.add((kind, right))
                if right is None:
                    self.assertIs(type(told), Endless)
                    self.check_endless(weather, turn, kind, told)
                else:
                    self.assertIs(type(told), Held)
                    self.assert_same(told.turns, right)
                    self.assertTrue(are_held(weather, turn, kind, told.rows))
                    self.assertEqual(len(told.rows[0]), turn + right)
                    if right < 3:
                        self.assertEqual(all_held_rows(weather, turn, kind, right + 1), [])
                self.assertIsNone(hold_fault(weather, turn, kind, told))
        self.assertTrue({("query", None), ("action", None), ("query", 2), ("action", 2)} <= seen, seen)

    def test_told_kinds(self):
        # Two rows may have the corrupted packets at unlike turns.
        one = Weather(2, [(0, "clean", 0), (0, "corrupted", 1), (1, "clean", 1)])
        self.assert_same(hold(one, 3, "query").turns, 1)
        self.assert_same(hold(one, 3, "action").turns, 2)
        lost = Weather(3, [(0, "clean", 0), (0, "lost", 1), (1, "clean", 1), (1, "lost", 2), (2, "clean", 2)])
        self.assert_same(hold(lost, 3, "query").turns, 2)
        self.assert_same(hold(lost, 3, "action").turns, 2)

    def test_endless(self):
        for kind in KINDS:
            self.check_endless(ALL, 0, kind, hold(ALL, 0, kind))
            self.check_endless(ALL, 7, kind, hold(ALL, 7, kind))
        burst = burst_weather(2, 2, "corrupted")
        self.check_endless(burst, 1, "action", hold(burst, 1, "action"))

    def test_none_held(self):
        self.assertEqual(hold(CLEAN, 0, "query"), Held(0, ((),)))
        self.assertEqual(hold(CLEAN, 2, "action"), Held(0, (("clean",) * 2,) * 2))

    def test_greatest_sizes(self):
        weather = count_weather(11, "lost")
        self.assertEqual(type(hold(weather, 20, "action")), Endless)
        chain = Weather(12, [(at, mark, at + 1) for at in range(11) for mark in MARKS] + [(11, "clean", 11)])
        for kind in KINDS:
            self.assert_same(hold(chain, 4, kind).turns, 7)
            self.assert_same(worst_hold(chain, kind)[0], 0)
            self.assert_same(worst_hold(chain, kind)[1].turns, 11)

    def test_results(self):
        self.assert_equals(lambda: Held(1, ((),)), [Held(2, ((),)), Held(1, ((), ())), Endless(1, ((),))])
        self.assert_equals(lambda: Endless(((),), (("lost",),)), [Endless(((),), ()), Endless((), (("lost",),))])


class HoldFault(Case):
    def test_result(self):
        for told in (None, 3, (2, ()), "query"):
            self.assert_same(hold_fault(CLEAN, 0, "query", told), "result")

    def test_rows_of_held(self):
        weather = Weather(3, [(0, "clean", 0), (0, "lost", 1), (1, "clean", 1), (1, "corrupted", 2), (2, "clean", 2)])
        right = hold(weather, 1, "action")
        self.assertIsNone(hold_fault(weather, 1, "action", right))
        self.assertIsNone(hold_fault(weather, 1, "action", Held(right.turns, [list(row) for row in right.rows])))
        for turns in (right.turns + 1, right.turns - 1, -1, True, None, "2", 10 ** 9):
            self.assert_same(hold_fault(weather, 1, "action", Held(turns, right.rows)), "rows")
        one, other = right.rows
        for rows in (None, 5, (), (one,), (one, other, one), (one, other[:-1]), (one[:-1], other[:-1]), (one, None),
                     (one, "lost"), (("bad", *one[1:]), other), ((None, *one[1:]), other), (([],) + one[1:], other),
                     (("clean",) * len(one), other), (("corrupted",) * len(one),) * 2):
            self.assert_same(hold_fault(weather, 1, "action", Held(right.turns, rows)), "rows")
        # Each row can be, but one has nothing heard where the other one has.
        self.assert_same(hold_fault(weather, 1, "action", Held(0, (("clean",), ("lost",)))), "rows")
        self.assert_same(hold_fault(weather, 0, "query", Held(1, (("clean",),))), "rows")

    def test_more(self):
        weather = count_weather(2, "lost")
        for kind, many in (("query", 1), ("action", 2)):
            self.assert_same(hold_fault(weather, 1, kind, Held(0, (("clean",),) * many)), "more")
        chain = Weather(3, [(0, "lost", 1), (1, "lost", 2), (2, "clean", 2)])
        self.assert_same(hold_fault(chain, 0, "query", Held(1, (("lost",),))), "more")
        self.assertIsNone(hold_fault(chain, 0, "query", Held(2, (("lost",) * 2,))))

    def test_rows_of_endless(self):
        right = hold(ALL, 2, "action")
        self.assertIsNone(hold_fault(ALL, 2, "action", right))
        rings = right.rings
        self.assertIsNone(hold_fault(ALL, 2, "action", Endless([("clean", "clean", "lost")] * 2, rings)))
        for rows in (None, (), (("clean",) * 2,), (("clean",),) * 2, (("clean",) * 3,) * 2, (("clean", "lost"), ("clean",) * 2),
                     (("clean",) * 2, ("clean",) * 3), (("clean", 0), ("clean",) * 2)):
            self.assert_same(hold_fault(ALL, 2, "action", Endless(rows, rings)), "rows")

    def test_rings(self):
        weather = Weather(3, [(0, "lost", 0), (0, "corrupted", 1), (1, "corrupted", 2), (2, "clean", 2)])
        self.assertIsNone(hold_fault(weather, 0, "query", Endless(((),), (("lost",),))))
        self.assertIsNone(hold_fault(weather, 0, "query", Endless([["lost"]], [["lost", "lost"]])))
        for rings in (None, (), ((),), (("clean",),), (("corrupted",),), (("lost",), ("lost",)), ("lost",), (("bad",),),
                      (("lost", "corrupted"),), (None,)):
            self.assert_same(hold_fault(weather, 0, "query", Endless(((),), rings)), "rings")
        for rings in ((("lost",), ("corrupted",)), (("clean",), ("clean",)), (("lost",), ("lost", "lost")), (("lost",),)):
            self.assert_same(hold_fault(ALL, 0, "action", Endless(((), ()), rings)), "rings")
        # It can go round twice, but no third time.
        self.assert_same(hold_fault(weather, 0, "query", Endless((("lost",),), (("corrupted",),))), "rings")

    def test_none_for_what_hold_returns(self):
        for weather in (window_weather(3, 1, "lost"), burst_weather(3, 2, "corrupted"), count_weather(3, "clean")):
            for kind in KINDS:
                for turn in (0, 1, 9):
                    self.assertIsNone(hold_fault(weather, turn, kind, hold(weather, turn, kind)))


class JointStates(Case):
    def test_against_the_words(self):
        chance = random.Random(143)
        for _ in range(120):
            weather = chance_weather(chance, 3)
            for kind in KINDS:
                turn = chance.randint(0, 4)
                states = joint_states(weather, turn, kind)
                self.assert_same(states, tuple(sorted(reached(weather, turn, kind))))
                ends = set()
                for rows in all_held_rows(weather, turn, kind, 0):
                    lasts = [(one,) for one in ends_of_row(weather, rows[0])]
                    ends |= set(lasts) if kind == "query" else {
                        (*one, other) for one in lasts for other in ends_of_row(weather, rows[1])}
                self.assertEqual(set(states), ends)
                pairs = tuple((state, height_of(weather, state, kind)) for state in all_joint_states(weather, kind))
                self.assert_same(heights(weather, kind), pairs)

    def test_no_turns(self):
        self.assert_same(joint_states(ALL, 0, "query"), ((0,),))
        self.assert_same(joint_states(ALL, 0, "action"), ((0, 0),))

    def test_worst_against_all_turns(self):
        chance = random.Random(144)
        seen = set()
        for _ in range(200):
            weather = chance_weather(chance, 4, chance.randint(0, 4))
            for kind in KINDS:
                turn, told = worst_hold(weather, kind)
                every = [turn_hold(weather, other, kind) for other in range(20)]
                ranks = [(height is None, height or 0) for height in every]
                self.assert_same(turn, ranks.index(max(ranks)))
                self.assertIsNone(hold_fault(weather, turn, kind, told))
                seen.add((turn > 0, type(told)))
        self.assertEqual(len(seen), 4)
