"""[11.5] to [11.7]"""

import random
import unittest

from askedtrue.errors import BadPlan, BadRounds
from askedtrue.lots import Budgets
from askedtrue.nets import Net, Way
from askedtrue.plans import Plan
from askedtrue.roundplans import RoundPlan, circuit_weight, crossing, round_times
from askedtrue.rounds import RoundEvent, Rounds
from askedtrue.times import earliest
from tests.chances import chance_round_plans
from tests.helpers import Case, line, two_ends
from tests.walks import walk_way

ROUNDS = Rounds([RoundEvent("a", 1, "query", (("c", 1),)), RoundEvent("b", 2, "query", (("a", 0),)),
                 RoundEvent("c", 1, "action", (("b", 0),))])
PLAN = RoundPlan(ROUNDS, two_ends(2, (1, 0), (0, 1)), Budgets([(1, 1)]))


def walked_crossing(roundplan, source, goal, beat):
    """Beat by beat."""
    events = {event.name: event for event in roundplan.rounds.events}
    route = roundplan.net.route(events[source].end, events[goal].end)
    for number in route:
        beat = walk_way(roundplan.net, number, beat)
    if events[goal].kind == "action":
        lots = {roundplan.net.ways[number].lot for number in route}
        beat += roundplan.net.period * sum(roundplan.budgets.pairs[lot][0] for lot in lots)
    return beat


def all_circuits(rounds, longest):
    """All circuits of so many pairs at most."""
    steps = {name: [] for name in rounds.names}
    for name in rounds.names:
        for pair in rounds.sources(name):
            steps[pair[0]].append((pair, name))
    rows = [((), name, name) for name in rounds.names]
    for _ in range(longest):
        rows = [((*row, pair), first, name) for row, first, last in rows for pair, name in steps[last]]
        yield from (row for row, first, last in rows if first == last)


class RoundPlans(Case):
    def test_attributes(self):
        net, budgets = two_ends(), Budgets([(0, 1)])
        plan = RoundPlan(ROUNDS, net, budgets)
        self.assertTrue(plan.rounds is ROUNDS and plan.net is net and plan.budgets is budgets)

    def test_equal(self):
        self.assert_equals(lambda: RoundPlan(ROUNDS, two_ends(), Budgets([(0, 1)])), [
            RoundPlan(Rounds(()), two_ends(), Budgets([(0, 1)])), RoundPlan(ROUNDS, two_ends(2), Budgets([(0, 1)])),
            RoundPlan(ROUNDS, two_ends(), Budgets([(1, 0)])), Plan(ROUNDS.unrolled(1), two_ends(), Budgets([(0, 1)]))])

    def test_plan(self):
        for many in range(5):
            self.assertEqual(PLAN.plan(many), Plan(ROUNDS.unrolled(many), PLAN.net, PLAN.budgets))
        for many in (-1, 101, None, True):
            self.assert_raises(BadRounds("many", None), PLAN.plan, many)

    def test_with_budgets(self):
        other = PLAN.with_budgets(Budgets([(0, 5), (1, 1)]))
        self.assertEqual(other, RoundPlan(ROUNDS, PLAN.net, Budgets([(0, 5), (1, 1)])))
        self.assertEqual(PLAN.budgets, Budgets([(1, 1)]))
        self.assert_raises(BadPlan("lots"), PLAN.with_budgets, Budgets(()))

    def test_refused(self):
        no_tree = Net(2, 1, (Way(1, 2, 0, 0, 0),))
        self.assert_raises(BadPlan("tree"), RoundPlan, ROUNDS, no_tree, Budgets(()))
        self.assert_raises(BadPlan("end"), RoundPlan, ROUNDS, Net(1, 1, ()), Budgets(()))
        self.assert_raises(BadPlan("end"), RoundPlan, Rounds([RoundEvent("a", 3, "query")]), two_ends(), Budgets(()))
        self.assert_raises(BadPlan("lots"), RoundPlan, ROUNDS, two_ends(lots=(0, 1)), Budgets([(8, 0)]))
        self.assertEqual(RoundPlan(Rounds(()), Net(1, 1, ()), Budgets(())).plan(100).order.names, ())


class RoundTimes(Case):
    def test_by_hand(self):
        plan = RoundPlan(ROUNDS, two_ends(), Budgets([(0, 0)]))
        self.assert_same(round_times(plan, 2), ((0, 1, 2), (2, 3, 4), (4, 5, 6)))
        plan = plan.with_budgets(Budgets([(1, 1)]))
        # The period more of c at each round, and two more, once, for the lot.
        self.assert_same(round_times(plan, 2), ((0, 3, 5), (5, 6, 8), (8, 9, 11)))
        self.assert_same(round_times(plan, 0), ((0, 3, 5),))

    def test_against_unrolled_plans(self):
        for plan in chance_round_plans(171, 250):
            times = round_times(plan, 6)
            self.assertEqual(len(times), 7)
            many = 12 // max(1, len(plan.rounds))
            unrolled = plan.plan(min(many, 7))
            for number in range(min(many, 7)):
                right = [earliest(unrolled, f"{name}{number}").beat for name in plan.rounds.names]
                self.assert_same(times[number], tuple(right))

    def test_never_lower_in_a_later_round(self):
        for plan in chance_round_plans(172, 60):
            times = round_times(plan, 12)
            for one, other in zip(times, times[1:]):
                self.assertTrue(all(x <= y for x, y in zip(one, other)))
            self.assert_same(round_times(plan, 5), times[:6])

    def test_the_last_round(self):
        plan = RoundPlan(ROUNDS, two_ends(6, (6, 6)), Budgets([(8, 0)]))
        times = round_times(plan, 40)
        self.assertEqual(len(times), 41)
        self.assertGreater(times[40][2], 1200)
        self.assert_same([two[0] - one[0] for one, two in zip(times[5:], times[6:])], [24 + 48] * 35)

    def test_no_events(self):
        self.assert_same(round_times(RoundPlan(Rounds(()), Net(1, 1, ()), Budgets(())), 2), ((), (), ()))

    def test_refused(self):
        for last in (-1, 41, None, True, False, "0", 1.0):
            self.assert_raises(BadRounds("last", None), round_times, PLAN, last)


class Crossings(Case):
    def test_by_hand(self):
        # Way 0 has turns 2, 4, .. and a delay of 1; way 1 has turns 1, 3, ..
        self.assert_same([crossing(PLAN, "a", "b", beat) for beat in range(5)], [3, 3, 5, 5, 7])
        self.assert_same([crossing(PLAN, "b", "c", beat) for beat in range(5)], [3, 5, 5, 7, 7])
        self.assert_same([crossing(PLAN, "b", "a", beat) for beat in range(3)], [1, 3, 3])
        self.assert_same([crossing(PLAN, "c", "a", beat) for beat in range(3)], [0, 1, 2])
        self.assert_same([crossing(PLAN, "a", "c", 7), crossing(PLAN, "c", "c", 7), crossing(PLAN, "b", "b", 7)], [7, 7, 7])

    def test_between_any_two_events(self):
        chance = random.Random(173)
        for plan in chance_round_plans(174, 100):
            for _ in range(5 if len(plan.rounds) else 0):
                source, goal, beat = chance.choice(plan.rounds.names), chance.choice(plan.rounds.names), chance.randint(0, 99)
                self.assert_same(crossing(plan, source, goal, beat), walked_crossing(plan, source, goal, beat))

    def test_unknown(self):
        self.assert_raises(BadRounds("unknown", "x"), crossing, PLAN, "x", "y", 0)
        self.assert_raises(BadRounds("unknown", "y"), crossing, PLAN, "a", "y", 0)
        self.assert_raises(BadRounds("unknown", None), crossing, PLAN, None, "a", 0)


class Circuits(Case):
    def test_by_hand(self):
        plan = RoundPlan(ROUNDS, two_ends(), Budgets([(2, 1)]))
        for circuit in ([("a", 0), ("b", 0), ("c", 1)], (["b", 0], ["c", 1], ["a", 0]), (("c", 1), ("a", 0), ("b", 0))):
            self.assert_same(circuit_weight(plan, circuit), (4, 1))
        self.assert_same(circuit_weight(plan, [("a", 0), ("c", 1)]), (0, 1))
        self.assert_same(circuit_weight(plan, [("a", 0), ("b", 0), ("c", 1), ("a", 0), ("c", 1)]), (4, 2))

    def test_the_second_time_round_counts(self):
        # The first time from beat 0 takes 3 + 2 beats; the turns of the second one lie otherwise.
        rounds = Rounds([RoundEvent("a", 1, "query", (("b", 1),)), RoundEvent("b", 2, "query", (("a", 0),))])
        plan = RoundPlan(rounds, two_ends(5, (0, 0), (3, 4)), Budgets([(0, 0)]))
        self.assert_same(crossing(plan, "b", "a", crossing(plan, "a", "b", 0)), 4)
        self.assert_same(circuit_weight(plan, [("a", 0), ("b", 1)]), (5, 1))

    def test_an_event_that_is_its_own_source(self):
        rounds = Rounds([RoundEvent("a", 1, "query", (("a", 1),))])
        plan = RoundPlan(rounds, Net(1, 1, ()), Budgets(()))
        for many in (1, 2, 79, 80):
            self.assert_same(circuit_weight(plan, [("a", 1)] * many), (0, many))
        self.assert_raises(BadRounds("circuit", None), circuit_weight, plan, [("a", 1)] * 81)

    def test_against_a_walk(self):
        for plan in chance_round_plans(175, 60, 4):
            for circuit in all_circuits(plan.rounds, 4):
                beat = 0
                ends = []
                for _ in range(4):
                    for (source, _), (goal, _) in zip(circuit, [*circuit[1:], circuit[0]]):
                        beat = walked_crossing(plan, source, goal, beat)
                    ends.append(beat)
                self.assert_same(circuit_weight(plan, circuit), (ends[1] - ends[0], sum(lag for _, lag in circuit)))
                # All later times round take as long.
                self.assertEqual(ends[1] - ends[0], ends[3] - ends[2])
                self.assertGreater(sum(lag for _, lag in circuit), 0)

    def test_refused(self):
        for circuit in (None, 5, "a", (), [], {}, {"a": 1}, [None], ["a1"], [("a",)], [("a", 0, 0)], [("a", 0)], [("a", 1)],
                        [("a", 0), ("b", 0)], [("a", 0), ("b", 0), ("c", 0)], [("a", 0), ("b", 0), ("c", 2)],
                        [("a", 0), ("b", 0), ("c", True)], [("a", False), ("b", 0), ("c", 1)], [("a", 0), ("b", 0), ("x", 1)],
                        [("b", 0), ("a", 0), ("c", 1)], [("a", 0), ("b", 0), ("b", 0), ("c", 1)], [("a", 0), ("b", 0), (["c"], 1)],
                        [("a", "0"), ("b", 0), ("c", 1)], [("a", 0), ("b", 0), None], [("a", 0), ("b", 0), {"c": 1}]):
            self.assert_raises(BadRounds("circuit", None), circuit_weight, PLAN, circuit)

    def test_lines_of_ends(self):
        rounds = Rounds([RoundEvent("a", 1, "query", (("b", 1),)), RoundEvent("b", 4, "action", (("a", 0),))])
        plan = RoundPlan(rounds, line(4, lots=(0, 0, 1, 1, 0, 0)), Budgets([(1, 0), (2, 3)]))
        self.assert_same(circuit_weight(plan, [("a", 0), ("b", 1)]), (6 + 3, 1))


if __name__ == "__main__":
    unittest.main()
