"""[6.5], [6.6], and the second half of the example [6.8]"""

import itertools
import random
import types
import unittest

from askedtrue.corners import Breach, Corner, greatest, least_broken
from askedtrue.errors import BadDeadline, BadMargin, BadOrder
from askedtrue.lots import Budgets
from askedtrue.margins import first_broken, inequalities
from askedtrue.nets import Net
from askedtrue.orders import Event, Order
from askedtrue.plans import Plan
from askedtrue.times import earliest
from tests.helpers import Case, chain, chance_plans, line, two_ends
from tests.walks import all_paths, path_facts

ORDER = Order([Event("a", 1, "query"), Event("b", 2, "query", ("a",)), Event("c", 1, "action", ("b",))])
PLAN = Plan(ORDER, two_ends(), Budgets([(1, 1)]))
ABC = ("a", "b", "c")


def stands(plan, deadlines, pairs):
    """Whether all paths to the events of the deadlines are soon enough with these pairs, however great."""
    other = types.SimpleNamespace(net=plan.net, order=plan.order, budgets=types.SimpleNamespace(pairs=pairs))
    for name, beat in deadlines:
        for path in all_paths(plan.order, name):
            clean, held = path_facts(other, path)[:2]
            if clean + held > beat:
                return False
    return True


def all_budgets(lots, cap):
    pairs = list(itertools.product(range(cap + 1), repeat=2))
    return list(itertools.product(pairs, repeat=lots))


def is_less(one, other):
    """Nowhere greater."""
    return all(x <= y for mine, yours in zip(one, other) for x, y in zip(mine, yours))


def raised(pairs, lot, which):
    pair = [number + (at == which) for at, number in enumerate(pairs[lot])]
    return (*pairs[:lot], tuple(pair), *pairs[lot + 1:])


class Results(Case):
    def test_corner_and_breach(self):
        self.assert_equals(lambda: Corner(((1, 2),), ((None, ABC),)), [
            Corner(((1, 1),), ((None, ABC),)), Corner(((1, 2),), ((None, None),)), Breach(((1, 2),), ((None, ABC),))])
        self.assert_equals(lambda: Breach(((1, 2),), ABC), [Breach(((1, 1),), ABC), Breach(((1, 2),), ("a",)),
                                                            Corner(((1, 2),), ABC)])
        self.assertEqual(Corner(bars=2, pairs=1), Corner(1, 2))
        self.assertEqual(Breach(path=2, pairs=1), Breach(1, 2))

    def test_they_keep_their_arguments(self):
        pairs, bars = [[1]], {}
        self.assertIs(Corner(pairs, bars).pairs, pairs)
        self.assertIs(Corner(pairs, bars).bars, bars)
        self.assertIs(Breach(pairs, bars).path, bars)


class Corners(Case):
    def test_example(self):
        corners = greatest(PLAN, [("c", 6)], 4)
        self.assert_same([(corner.pairs, corner.bars) for corner in corners], [
            (((0, 4),), ((ABC, None),)), (((1, 2),), ((ABC, ABC),)), (((2, 0),), ((ABC, ABC),))])
        breaches = least_broken(PLAN, (["c", 6],), 4)
        self.assert_same([(breach.pairs, breach.path) for breach in breaches], [
            (((1, 3),), ABC), (((2, 1),), ABC), (((3, 0),), ABC)])

    def test_results_are_of_their_classes(self):
        self.assertEqual(greatest(PLAN, [("c", 3)], 1), (Corner(((0, 1),), ((ABC, None),)),))
        self.assertEqual(least_broken(PLAN, [("c", 3)], 1), (Breach(((1, 0),), ABC),))

    def test_without_deadlines_all_stand(self):
        self.assertEqual(greatest(PLAN, (), 6), (Corner(((6, 6),), ((None, None),)),))
        self.assertEqual(least_broken(PLAN, [], 6), ())

    def test_none_stand(self):
        self.assert_same(greatest(PLAN, [("c", 1)], 3), ())
        self.assertEqual(least_broken(PLAN, [("c", 1)], 3), (Breach(((0, 0),), ABC),))
        self.assertEqual(least_broken(PLAN, [("c", 1)], 0), (Breach(((0, 0),), ABC),))

    def test_cap_0(self):
        self.assertEqual(greatest(PLAN, [("c", 2)], 0), (Corner(((0, 0),), ((None, None),)),))
        self.assertEqual(least_broken(PLAN, [("c", 2)], 0), ())

    def test_without_lots(self):
        plan = Plan(chain(1, 1), Net(1, 2, ()), Budgets(()))
        self.assertEqual(greatest(plan, [("b", 0)], 6), (Corner((), ()),))
        self.assertEqual(least_broken(plan, [("b", 0)], 6), ())

    def test_the_numbers_of_the_budgets_mean_nothing(self):
        for pairs in ([(0, 0)], [(8, 0)], [(3, 4)]):
            plan = PLAN.with_budgets(Budgets(pairs))
            self.assertEqual(greatest(plan, [("c", 6)], 4), greatest(PLAN, [("c", 6)], 4))
            self.assertEqual(least_broken(plan, [("c", 6)], 4), least_broken(PLAN, [("c", 6)], 4))

    def test_bars_name_the_first_inequality(self):
        order = Order([Event("a", 1, "query"), Event("b", 2, "query", ("a",)), Event("d", 2, "action", ("a",))])
        plan = PLAN.with_order(order)
        ab, ad = ("a", "b"), ("a", "d")
        # b asks e + f <= 3, d asks 2 e + f <= 4; (1, 1) of e + f comes first.
        corners = greatest(plan, [("b", 4), ("d", 5)], 4)
        self.assertEqual(corners, (Corner(((0, 3),), ((ab, ab),)), Corner(((1, 2),), ((ab, ab),)), Corner(((2, 0),), ((ad, ad),))))
        breaches = least_broken(plan, [("b", 4), ("d", 5)], 4)
        self.assertEqual([(breach.pairs, breach.path) for breach in breaches], [
            (((0, 4),), ab), (((1, 3),), ab), (((2, 1),), ad), (((3, 0),), ad)])

    def test_more_than_8_bad_packets_are_let(self):
        plan = Plan(chain(1, 2, 3), line(3, lots=(0, 0, 1, 1)), Budgets([(0, 0)] * 2))
        corners = greatest(plan, [("c", 2 + 23)], 6)
        self.assertEqual([corner.pairs for corner in corners], [
            ((5, 6), (6, 6)), ((6, 5), (6, 6)), ((6, 6), (5, 6)), ((6, 6), (6, 5))])

    def test_against_all_budgets(self):
        chance = random.Random(41)
        for plan in chance_plans(42, 60, 6):
            if not len(plan.order):
                continue
            lots, cap = chance.choice(((1, 6), (1, 3), (2, 2), (2, 3), (3, 1), (4, 1)))
            net = plan.net.with_lots([chance.randrange(lots) for _ in plan.net.ways])
            plan = Plan(plan.order, net, Budgets([(chance.randint(0, 1), 0)] * lots))
            deadlines = [(name, max(0, earliest(plan, name).beat + chance.randint(-1, 9)))
                         for name in chance.sample(plan.order.names, min(2, len(plan.order)))]
            self.check(plan, deadlines, cap)

    def check(self, plan, deadlines, cap):
        budgets = all_budgets(len(plan.budgets), cap)
        good = [pairs for pairs in budgets if stands(plan, deadlines, pairs)]
        bad = [pairs for pairs in budgets if pairs not in good]
        rows = inequalities(plan, deadlines)
        corners, breaches = greatest(plan, deadlines, cap), least_broken(plan, deadlines, cap)
        self.assertEqual([corner.pairs for corner in corners],
                         [one for one in good if not any(one != other and is_less(one, other) for other in good)])
        self.assertEqual([breach.pairs for breach in breaches],
                         [one for one in bad if not any(one != other and is_less(other, one) for other in bad)])
        for breach in breaches:
            self.assertEqual(breach.path, rows[first_broken(rows, breach.pairs)].path)
        for corner in corners:
            for lot, which in itertools.product(range(len(plan.budgets)), (0, 1)):
                bar = corner.bars[lot][which]
                if corner.pairs[lot][which] == cap:
                    self.assertIsNone(bar)
                else:
                    self.assertEqual(bar, rows[first_broken(rows, raised(corner.pairs, lot, which))].path)
        for pairs in budgets:
            under = any(is_less(pairs, corner.pairs) for corner in corners)
            self.assertNotEqual(under, any(is_less(breach.pairs, pairs) for breach in breaches))

    def test_the_most_budgets(self):
        plan = Plan(chain(1, 2, 3, 4), line(4, lots=(0, 0, 1, 1, 2, 2)), Budgets([(0, 0)] * 3))
        corners = greatest(plan, [("d", 3 + 4)], 3)
        self.assertEqual(len(corners), len([row for row in itertools.product(range(4), repeat=6) if sum(row) == 4]))
        plan = Plan(ORDER, two_ends(), Budgets([(0, 0)] * 4))
        self.assertEqual([corner.pairs for corner in greatest(plan, [("c", 2)], 1)], [((0, 0), (1, 1), (1, 1), (1, 1))])


class Refused(Case):
    def test_deadlines_first(self):
        for call in (greatest, least_broken):
            self.assert_raises(BadDeadline(None), call, PLAN, None, None)
            self.assert_raises(BadDeadline(0), call, PLAN, [("c", -1), ("x", 0)], None)
            self.assert_raises(BadOrder("unknown", "x"), call, PLAN, [("x", 0), None], 9)

    def test_cap(self):
        wide = Plan(ORDER, two_ends(), Budgets([(0, 0)] * 4))
        for call in (greatest, least_broken):
            for cap in (None, True, False, -1, 7, "1", 1.0, (1,), 10 ** 20):
                self.assert_raises(BadMargin("cap"), call, PLAN, [("c", 6)], cap)
                self.assert_raises(BadMargin("cap"), call, wide, (), cap)

    def test_many(self):
        for lots, cap in ((4, 2), (4, 6), (3, 4), (3, 6)):
            plan = Plan(ORDER, two_ends(), Budgets([(0, 0)] * lots))
            for call in (greatest, least_broken):
                self.assert_raises(BadMargin("many"), call, plan, [("c", 6)], cap)
        for lots, cap in ((4, 1), (3, 3), (2, 6)):
            self.assertEqual(len(greatest(Plan(ORDER, two_ends(), Budgets([(0, 0)] * lots)), (), cap)), 1)


if __name__ == "__main__":
    unittest.main()
