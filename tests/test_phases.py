"""[6.7]"""

import itertools
import random
import unittest

from askedtrue.errors import BadMargin, BadOrder
from askedtrue.lots import Budgets
from askedtrue.nets import Net
from askedtrue.orders import Event, Order
from askedtrue.phases import Phased, best_phases
from askedtrue.plans import Plan
from askedtrue.times import earliest
from tests.helpers import Case, chain, chance_order, chance_plans, line, two_ends


def walked(plan, names):
    """What best_phases should return, by way of all rows."""
    rows = itertools.product(range(plan.net.period), repeat=len(plan.net.ways))
    beat, phases = min((max(earliest(plan.with_net(plan.net.with_phases(row)), name).beat for name in names), row)
                       for row in rows)
    return Phased(phases, beat)


class BestPhases(Case):
    def test_result(self):
        self.assert_equals(lambda: Phased((0, 1), 2), [Phased((0, 0), 2), Phased((0, 1), 3)])
        self.assertEqual(Phased(beat=2, phases=1), Phased(1, 2))

    def test_by_hand(self):
        plan = Plan(chain(1, 2, 1), two_ends(3), Budgets([(0, 0)]))
        best = best_phases(plan, ["c"])
        # The first turn can be at beat 1, the way back at beat 2.
        self.assert_same((best.phases, best.beat), ((1, 2), 2))
        self.assertEqual(best_phases(plan, ("a",)), Phased((0, 0), 0))
        self.assertEqual(best_phases(plan, ("b", "b")), Phased((1, 0), 1))

    def test_the_plans_own_phases_mean_nothing(self):
        plan = Plan(chain(1, 2, 1), two_ends(3, (1, 2), (2, 0)), Budgets([(1, 1)]))
        best = best_phases(plan, ["c", "b"])
        for phases in itertools.product(range(3), repeat=2):
            self.assertEqual(best_phases(plan.with_net(plan.net.with_phases(phases)), ["c", "b"]), best)

    def test_without_ways(self):
        plan = Plan(chain(1, 1), Net(1, 6, ()), Budgets(()))
        best = best_phases(plan, ["b", "a"])
        self.assert_same((best.phases, best.beat), ((), 0))

    def test_against_all_rows(self):
        chance = random.Random(51)
        for plan in chance_plans(52, 60, 6):
            if len(plan.order) and plan.net.period ** len(plan.net.ways) <= 81:
                names = [chance.choice(plan.order.names) for _ in range(chance.randint(1, 3))]
                self.assertEqual(best_phases(plan, names), walked(plan, names))
                self.assertEqual(best_phases(plan, tuple(names)), walked(plan, names))

    def test_the_most_rows(self):
        order = chance_order(random.Random(53), 7, 5)
        plan = Plan(order, line(5, 2, lots=(0, 1, 2, 3)), Budgets([(1, 1)] * 4))
        self.assertEqual(best_phases(plan, order.names), walked(plan, order.names))

    def test_refused(self):
        plan = Plan(chain(1, 2), two_ends(), Budgets([(0, 0)]))
        wide = Plan(Order([Event("a", 1, "query")]), line(3, 6), Budgets([(0, 0)]))
        for names in (None, (), [], "a", {"a": 1}, 5, {"a"}):
            self.assert_raises(BadMargin("names"), best_phases, plan, names)
            self.assert_raises(BadMargin("names"), best_phases, wide, names)
        self.assert_raises(BadOrder("unknown", "x"), best_phases, plan, ["a", "x", "y"])
        self.assert_raises(BadOrder("unknown", None), best_phases, plan, [None])
        self.assert_raises(BadOrder("unknown", ["a"]), best_phases, wide, [["a"], "a"])
        self.assert_raises(BadMargin("many"), best_phases, wide, ["a"])
        self.assert_raises(BadMargin("many"), best_phases, wide.with_net(line(4, 3)), ["a"])


if __name__ == "__main__":
    unittest.main()
