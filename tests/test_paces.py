"""[11.8] to [11.10]"""

import random
import unittest
from fractions import Fraction
from math import gcd

from askedtrue.errors import BadRounds
from askedtrue.lots import Budgets
from askedtrue.nets import Net
from askedtrue.paces import Pace, pace, pace_fault, round_bound
from askedtrue.roundplans import RoundPlan, circuit_weight, crossing, round_times
from askedtrue.rounds import RoundEvent, Rounds
from tests.chances import chance_round_plans
from tests.helpers import Case, two_ends
from tests.test_roundplans import all_circuits

ROUNDS = Rounds([RoundEvent("a", 1, "query", (("c", 1),)), RoundEvent("b", 2, "query", (("a", 0),)),
                 RoundEvent("c", 1, "action", (("b", 0),))])
PLAN = RoundPlan(ROUNDS, two_ends(2, (1, 0), (0, 1)), Budgets([(1, 1)]))
BIG = 10 ** 290


def greatest_quotient(plan):
    """The greatest quotient of all rings of crossings that pass no event twice at one rest, by way of all of them."""
    period = plan.net.period
    steps = {}
    for goal in plan.rounds.names:
        for source, lag in plan.rounds.sources(goal):
            for rest in range(period):
                end = crossing(plan, source, goal, rest)
                steps.setdefault((source, rest), []).append(((goal, end % period), end - rest, lag))
    best = Fraction(0)
    order = sorted(steps)
    for first in order:
        rows = [(first, 0, 0, (first,))]
        while rows:
            node, beats, lags, seen = rows.pop()
            for goal, more, lag in steps.get(node, ()):
                if goal == first:
                    best = max(best, Fraction(beats + more, lags + lag))
                elif goal not in seen and goal > first:
                    rows.append((goal, beats + more, lags + lag, (*seen, goal)))
    return best


class Paces(Case):
    def test_result(self):
        self.assert_equals(lambda: Pace(1, 2, (("a", 1),), ((0,),)), [
            Pace(2, 2, (("a", 1),), ((0,),)), Pace(1, 1, (("a", 1),), ((0,),)), Pace(1, 2, (), ((0,),)),
            Pace(1, 2, (("a", 1),), ((1,),))])
        self.assertEqual(Pace(potentials=4, circuit=3, rounds=2, beats=1), Pace(1, 2, 3, 4))

    def check(self, plan):
        told = pace(plan)
        self.assertIs(type(told), Pace)
        self.assertEqual(gcd(told.beats, told.rounds), 1)
        self.assertTrue(told.beats >= 0 and told.rounds > 0)
        if told.beats:
            beats, rounds = circuit_weight(plan, told.circuit)
            self.assertEqual(beats * told.rounds, told.beats * rounds)
        self.assert_same((tuple(map(tuple, told.potentials)), tuple(map(tuple, told.circuit))), (told.potentials, told.circuit))
        self.assertEqual([len(row) for row in told.potentials], [plan.net.period] * len(plan.rounds))
        self.check_potentials(plan, told)
        self.assertIsNone(pace_fault(plan, told))
        return Fraction(told.beats, told.rounds)

    def check_potentials(self, plan, told):
        rows = dict(zip(plan.rounds.names, told.potentials))
        for goal in plan.rounds.names:
            for source, lag in plan.rounds.sources(goal):
                for rest in range(plan.net.period):
                    end = crossing(plan, source, goal, rest)
                    least = rows[source][rest] + told.rounds * (end - rest) - told.beats * lag
                    self.assertGreaterEqual(rows[goal][end % plan.net.period], least)

    def test_by_hand(self):
        plan = RoundPlan(ROUNDS, two_ends(), Budgets([(0, 0)]))
        self.assertEqual(self.check(plan), 2)
        self.assertEqual(self.check(plan.with_budgets(Budgets([(0, 7)]))), 2)
        self.assertEqual(self.check(plan.with_budgets(Budgets([(3, 2)]))), 5)
        # a by way 0 at turn 2, heard at 3; b by way 1 at turn 5, a period more for c: 7, and on from 7 to 8.
        self.assertEqual(self.check(PLAN), 6)

    def test_a_quotient_that_is_no_whole_number(self):
        rounds = Rounds([RoundEvent("a", 1, "query", (("d", 1),)), RoundEvent("b", 2, "query", (("a", 1),)),
                         RoundEvent("d", 1, "query", (("b", 1),))])
        plan = RoundPlan(rounds, two_ends(), Budgets([(0, 0)]))
        self.assertEqual(self.check(plan), Fraction(2, 3))
        self.assert_same((pace(plan).beats, pace(plan).rounds), (2, 3))

    def test_no_circuit(self):
        for rounds in (Rounds(()), Rounds([RoundEvent("a", 1, "query"), RoundEvent("b", 2, "action", (("a", 1),))])):
            plan = RoundPlan(rounds, two_ends(3), Budgets([(2, 0)]))
            self.assertEqual(self.check(plan), 0)
            self.assert_same((pace(plan).beats, pace(plan).rounds), (0, 1))

    def test_no_circuit_that_takes_time(self):
        rounds = Rounds([RoundEvent("a", 1, "action", (("a", 1),)), RoundEvent("b", 2, "action", (("a", 0),))])
        self.assertEqual(self.check(RoundPlan(rounds, two_ends(6, (6, 6)), Budgets([(2, 0)]))), 0)

    def test_against_all_rings(self):
        for plan in chance_round_plans(181, 150, 4):
            if plan.net.period <= 3:
                self.assertEqual(self.check(plan), greatest_quotient(plan))

    def test_against_all_circuits(self):
        for plan in chance_round_plans(182, 60, 4):
            best = self.check(plan)
            for circuit in all_circuits(plan.rounds, 5):
                self.assertLessEqual(Fraction(*circuit_weight(plan, circuit)), best)

    def test_the_greatest_size(self):
        for plan in chance_round_plans(183, 120):
            self.check(plan)

    def test_lost_packets_do_not_change_it(self):
        for plan in chance_round_plans(184, 40):
            other = plan.with_budgets(Budgets([(e, 0) for e, _ in plan.budgets]))
            self.assertEqual(self.check(plan), self.check(other))


class PaceFault(Case):
    def setUp(self):
        self.told = pace(PLAN)

    def fault(self, **changes):
        return pace_fault(PLAN, Pace(**{**vars(self.told), **changes}))

    def test_right(self):
        self.assertIsNone(self.fault())
        self.assertIsNone(self.fault(circuit=(("b", 0), ("c", 1), ("a", 0))))
        self.assertIsNone(self.fault(circuit=(("a", 0), ("b", 0), ("c", 1)) * 26))
        for more in (BIG, -BIG, 1, -7):
            self.assertIsNone(self.fault(potentials=tuple(tuple(number + more for number in row) for row in self.told.potentials)))

    def test_fraction(self):
        for beats, rounds in ((12, 2), (-6, 1), (6, 0), (6, -1), (-6, -1), (0, 2), (6, 6), (0, 0), (True, 1), (6, True), (None, 1),
                              ("6", 1)):
            self.assertEqual(self.fault(beats=beats, rounds=rounds), "fraction")
            self.assertEqual(self.fault(beats=beats, rounds=rounds, circuit=None, potentials=None), "fraction")

    def test_circuit(self):
        for circuit in ((), None, (("a", 0), ("c", 1)), (("a", 0), ("b", 0)), (("x", 1),), 5, (("a", 0), ("b", 0), ("c", 1)) * 27,
                        (("a", 0), ("b", 0), ("c", 1), ("a", 0), ("c", 1))):
            self.assertEqual(self.fault(circuit=circuit), "circuit", circuit)
            self.assertEqual(self.fault(circuit=circuit, potentials=None), "circuit", circuit)
        for beats, rounds in ((5, 1), (7, 1), (BIG, 1), (6, BIG + 1), (0, 1)):
            self.assertEqual(self.fault(beats=beats, rounds=rounds), "circuit")
        self.assertEqual(self.fault(beats=0, circuit=()), "potentials")

    def test_no_circuit_that_takes_time(self):
        rounds = Rounds([RoundEvent("a", 1, "action", (("a", 1),)), RoundEvent("b", 2, "action", (("a", 0),))])
        plan = RoundPlan(rounds, two_ends(), Budgets([(1, 0)]))
        told = pace(plan)
        for circuit in ((), (("a", 1),), (("a", 1),) * 80):
            self.assertIsNone(pace_fault(plan, Pace(0, 1, circuit, told.potentials)))
        for circuit in ((("a", 0),), (("b", 1),), (("a", 1),) * 81, None):
            self.assertEqual(pace_fault(plan, Pace(0, 1, circuit, told.potentials)), "circuit")
        self.assertEqual(pace_fault(plan, Pace(1, 1, (), told.potentials)), "circuit")
        self.assertEqual(pace_fault(plan, Pace(1, 1, (("a", 1),), told.potentials)), "circuit")

    def test_potentials_of_another_shape(self):
        right = self.told.potentials
        for potentials in (None, 5, (), right[:2], right + right[:1], (right[0], right[1], None), (right[0], right[1], (0,)),
                           (right[0], right[1], (0, 0, 0)), (right[0], right[1], (BIG, None)), (right[0], right[1], (BIG, True)),
                           (right[0], right[1], (BIG, str(BIG))), "abc"):
            self.assertEqual(self.fault(potentials=potentials), "potentials", potentials)

    def test_one_potential_too_small(self):
        right = [list(row) for row in self.told.potentials]
        # Lowered one by one, each number is at some time too small, or nothing asks for it.
        for goal in ROUNDS.names:
            for source, _ in ROUNDS.sources(goal):
                for rest in range(2):
                    s = crossing(PLAN, source, goal, rest) % 2
                    rows = [list(row) for row in right]
                    rows[ROUNDS.names.index(goal)][s] = -BIG
                    self.assertEqual(self.fault(potentials=tuple(map(tuple, rows))), "potentials")

    def test_the_least_numbers(self):
        rounds = Rounds([RoundEvent("a", 1, "query"), RoundEvent("b", 2, "query", (("a", 0),))])
        plan = RoundPlan(rounds, two_ends(2, (1, 1)), Budgets([(1, 0)]))
        # From a at rest 0 to b it takes 3 beats, at rest 1 it takes 2; both end at rest 1.
        self.assertIsNone(pace_fault(plan, Pace(0, 1, (), ((0, 0), (-BIG, 3)))))
        self.assertIsNone(pace_fault(plan, Pace(0, 1, (), ((-1, 0), (-BIG, 2)))))
        for thing in (None, True, "3", 3.0, (3,)):
            self.assertEqual(pace_fault(plan, Pace(0, 1, (), ((0, 0), (thing, 3)))), "potentials")
        self.assertEqual(pace_fault(plan, Pace(0, 1, (), ((0, 0), (BIG, 2)))), "potentials")
        self.assertEqual(pace_fault(plan, Pace(0, 1, (), ((-1, 1), (BIG, 2)))), "potentials")


class RoundBound(Case):
    def test_by_hand(self):
        told = Pace(5, 2, (), ((3, 9), (1, 7), (4, -8)))
        plan = RoundPlan(ROUNDS, two_ends(2), Budgets([(1, 1), (2, 0)]))
        self.assert_same(round_bound(plan, told, "a", 3), (15 + 9 - 1) // 2 + 8)
        self.assert_same(round_bound(plan, told, "c", 0), (4 - 1) // 2 + 8)
        self.assert_same(round_bound(plan, told, "b", 10 ** 9), (5 * 10 ** 9 + 7 - 1) // 2 + 8)

    def test_refused(self):
        told = pace(PLAN)
        for name in ("x", None, 1):
            self.assert_raises(BadRounds("unknown", name), round_bound, PLAN, told, name, -1)
        for number in (-1, None, True, "0", 1.0):
            self.assert_raises(BadRounds("round", None), round_bound, PLAN, told, "a", number)

    def test_never_above_it(self):
        for plan in chance_round_plans(185, 150):
            told = pace(plan)
            for number, times in enumerate(round_times(plan, 15)):
                for name, beat in zip(plan.rounds.names, times):
                    self.assertLessEqual(beat, round_bound(plan, told, name, number))

    def test_never_below_the_circuit(self):
        chance = random.Random(186)
        for plan in chance_round_plans(187, 80, 5):
            told = pace(plan)
            circuits = [*([told.circuit] if told.circuit else []), *list(all_circuits(plan.rounds, 3))[:30]]
            times = round_times(plan, 40 if len(circuits) else 0)
            for circuit in chance.sample(circuits, min(5, len(circuits))):
                beats, rounds = circuit_weight(plan, circuit)
                place = plan.rounds.names.index(circuit[0][0])
                for number in range(40):
                    for many in range((40 - number) // rounds + 1):
                        least = times[number][place] + many * beats - (plan.net.period - 1)
                        self.assertGreaterEqual(times[number + many * rounds][place], least)

    def test_an_end_alone(self):
        plan = RoundPlan(Rounds([RoundEvent("a", 1, "query", (("a", 1),))]), Net(1, 1, ()), Budgets([(3, 1)]))
        self.assert_same(round_bound(plan, pace(plan), "a", 7), 4)


if __name__ == "__main__":
    unittest.main()
