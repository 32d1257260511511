"""[12.1] to [12.7]"""

import itertools
import random
import unittest

from askedtrue.checks import Checked, Never, cheapest, checks_fault, late_path, with_checks, worth
from askedtrue.errors import BadChecks, BadOrder
from askedtrue.lots import Budgets
from askedtrue.nets import Net
from askedtrue.orders import Event, Order
from askedtrue.plans import Plan
from askedtrue.times import earliest, path_time
from tests.helpers import Case, chain, chance_plans, line, two_ends
from tests.walks import all_paths

ORDER = Order([Event("a", 1, "query"), Event("b", 2, "query", ("a",)), Event("c", 1, "action", ("b",))])
PLAN = Plan(ORDER, two_ends(), Budgets([(1, 1)]))
ABC = ("a", "b", "c")
# One lot a hop: 5 at the latest without checks, less with each of them.
WIDE = Plan(chain(1, 2, 3, kind="action"), line(3, lots=(0, 0, 1, 1)), Budgets([(1, 0), (2, 1)]))


def all_choices(plan):
    lots = range(len(plan.budgets))
    return sorted(choice for many in range(len(lots) + 1) for choice in itertools.combinations(lots, many))


def price_of(prices, choice):
    return sum(prices[lot] for lot in choice)


def checked_plan(plan, choice):
    """The plan with checks, from the words of [12.1]."""
    return plan.with_budgets(Budgets([(0, e + f) if lot in choice else (e, f) for lot, (e, f) in enumerate(plan.budgets)]))


def keeps(plan, deadlines, choice):
    return all(earliest(checked_plan(plan, choice), name).beat <= beat for name, beat in deadlines)


def late_paths(plan, deadlines, choice):
    """All paths that late_path may return."""
    plan = checked_plan(plan, choice)
    return [path for name, beat in deadlines for path in all_paths(plan.order, name) if path_time(plan, path).beat > beat]


def chance_deadlines(chance, plan):
    names = plan.order.names
    return [(name, max(0, earliest(plan, name).beat - chance.randint(0, 6))) for name in chance.choices(names, k=chance.randint(0, 3))]


class WithChecks(Case):
    def test_by_hand(self):
        plan = PLAN.with_budgets(Budgets([(1, 2), (0, 1), (3, 0)]))
        for lots, pairs in (((), ((1, 2), (0, 1), (3, 0))), ([0], ((0, 3), (0, 1), (3, 0))), ((2, 1), ((1, 2), (0, 1), (0, 3))),
                            ([2, 0, 1], ((0, 3), (0, 1), (0, 3)))):
            self.assertEqual(with_checks(plan, lots), Plan(ORDER, two_ends(), Budgets(pairs)))

    def test_refused(self):
        for lots in (None, 0, "0", {}, {0}, (1,), (-1,), (0, 0), [0, 1], (True,), (False,), (None,), ("0",), (0.0,), ((0,),)):
            self.assert_raises(BadChecks("lots"), with_checks, PLAN, lots)
        self.assert_raises(BadChecks("lots"), with_checks, Plan(Order(()), Net(1, 1, ()), Budgets(())), (0,))

    def test_with_more_checks_nothing_is_later(self):
        for plan in chance_plans(191, 60, 7):
            times = {choice: [earliest(with_checks(plan, choice), name).beat for name in plan.order.names]
                     for choice in all_choices(plan)}
            for one, other in itertools.product(times, repeat=2):
                if set(one) <= set(other):
                    self.assertTrue(all(x >= y for x, y in zip(times[one], times[other])))


class LatePath(Case):
    def test_by_hand(self):
        self.assert_same(late_path(PLAN, [("c", 4)], ()), ABC)
        self.assertIsNone(late_path(PLAN, [["c", 5]], []))
        self.assertIsNone(late_path(PLAN, (("c", 4), ("b", 3), ("a", 0)), (0,)))
        self.assert_same(late_path(PLAN, (("c", 4), ("b", 2)), [0]), ("a", "b"))
        self.assertIsNone(late_path(PLAN, (), ()))

    def test_against_all_paths(self):
        chance = random.Random(192)
        for plan in chance_plans(193, 150, 7):
            if len(plan.order):
                deadlines = chance_deadlines(chance, plan)
                choice = chance.choice(all_choices(plan))
                paths = late_paths(plan, deadlines, choice)
                found = late_path(plan, deadlines, chance.sample(choice, len(choice)))
                if paths:
                    self.assertIn(found, paths)
                    self.assertIs(type(found), tuple)
                else:
                    self.assertIsNone(found)

    def test_refused(self):
        for deadlines in (None, "c", 5, {}, {"c": 5}, [None], ["c5"], [("c",)], [("c", 5, 5)], [()], [("c", -1)], [("c", True)],
                          [("c", None)], [("c", "5")], [("c", 5.0)], [("x", 0), ("c", None)], [5], [{"c": 5, "d": 6}]):
            self.assert_raises(BadChecks("deadlines"), late_path, PLAN, deadlines, None)
            self.assert_raises(BadChecks("deadlines"), cheapest, PLAN, deadlines, None)
            self.assert_raises(BadChecks("deadlines"), checks_fault, PLAN, deadlines, None, None)
        for name in ("x", "", None, 5, ["c"], "C", ("c", 5), True):
            for deadlines in ([(name, 5)], (("c", 5), [name, 5], ("y", 5))):
                self.assert_raises(BadOrder("unknown", name), late_path, PLAN, deadlines, None)
                self.assert_raises(BadOrder("unknown", name), cheapest, PLAN, deadlines, None)
                self.assert_raises(BadOrder("unknown", name), checks_fault, PLAN, deadlines, None, None)
        for lots in (None, (1,), (0, 0), (True,), "0"):
            self.assert_raises(BadChecks("lots"), late_path, PLAN, [("c", 5)], lots)
            self.assert_raises(BadChecks("lots"), late_path, PLAN, (), lots)


class Prices(Case):
    def test_refused(self):
        for prices in (None, 5, "5", {}, {0: 5}, (), (5, 5), (-1,), (True,), (False,), (None,), ("5",), (5.0,), ((5,),)):
            self.assert_raises(BadChecks("prices"), cheapest, PLAN, [("c", 5)], prices)
            self.assert_raises(BadChecks("prices"), checks_fault, PLAN, (), prices, None)
            self.assert_raises(BadChecks("prices"), worth, PLAN, "c", prices)
        for name in ("x", None, ["c"]):
            self.assert_raises(BadOrder("unknown", name), worth, PLAN, name, None)

    def test_lists_are_let(self):
        self.assertEqual(cheapest(PLAN, [["c", 4]], [7]), cheapest(PLAN, (("c", 4),), (7,)))
        self.assertEqual(worth(PLAN, "c", [7]), worth(PLAN, "c", (7,)))


class Cheapest(Case):
    def test_results(self):
        self.assert_equals(lambda: Checked((0,), 7, ()), [Checked((), 7, ()), Checked((0,), 6, ()), Checked((0,), 7, (1,)), Never((0,))])
        self.assert_equals(lambda: Never(ABC), [Never(()), Checked(ABC, 0, ())])
        self.assertEqual((Checked(bars=3, price=2, lots=1), Never(path=1)), (Checked(1, 2, 3), Never(1)))

    def test_example(self):
        self.assertEqual(earliest(PLAN, "c").beat, 5)
        self.assertEqual(cheapest(PLAN, (("c", 4),), (7,)), Checked((0,), 7, (((), ABC),)))
        self.assertEqual(cheapest(PLAN, (("c", 3),), (7,)), Never(ABC))
        self.assertEqual(cheapest(PLAN, (("c", 5),), (7,)), Checked((), 0, ()))

    def test_without_lots(self):
        plan = Plan(chain(1, 1), Net(1, 1, ()), Budgets(()))
        self.assertEqual(cheapest(plan, [("b", 0)], ()), Checked((), 0, ()))

    def test_bars_are_the_greatest_cheaper_choices(self):
        # a b c: 2 clean, and 1 + 2 at the crossings, and 4 once.
        self.assertEqual(earliest(WIDE, "c").beat, 9)
        told = cheapest(WIDE, [("c", 6)], (3, 2))
        self.assert_same((told.lots, told.price), ((0, 1), 5))
        self.assert_same(told.bars, (((0,), ABC), ((1,), ABC)))
        told = cheapest(WIDE, [("c", 7)], (3, 2))
        self.assert_same((told.lots, told.price, told.bars), ((1,), 2, (((), ABC),)))
        told = cheapest(WIDE, [("c", 7)], (1, 9))
        self.assert_same((told.lots, told.price, told.bars), ((1,), 9, (((0,), ABC),)))

    def test_prices_of_0(self):
        told = cheapest(WIDE, [("c", 7)], (0, 0))
        self.assertEqual((told.price, told.bars), (0, ()))
        self.assertIn(told.lots, [(1,), (0, 1)])
        told = cheapest(WIDE, [("c", 7)], (0, 4))
        self.assertEqual((told.price, told.bars), (4, (((0,), ABC),)))

    def test_against_all_choices(self):
        chance = random.Random(194)
        for plan in chance_plans(195, 150, 7):
            if not len(plan.order):
                continue
            deadlines = chance_deadlines(chance, plan)
            prices = [chance.choice((0, 1, 2, 3, 5, 10 ** 299)) for _ in plan.budgets]
            told = cheapest(plan, deadlines, prices)
            good = [price_of(prices, choice) for choice in all_choices(plan) if keeps(plan, deadlines, choice)]
            self.assertIsNone(checks_fault(plan, deadlines, prices, told))
            if not good:
                self.assertIs(type(told), Never)
                self.assertIn(told.path, late_paths(plan, deadlines, tuple(range(len(plan.budgets)))))
                continue
            self.assertIs(type(told), Checked)
            self.assertIn(told.lots, all_choices(plan))
            self.assertTrue(keeps(plan, deadlines, told.lots))
            self.assert_same(told.price, min(good))
            self.assertEqual(told.price, price_of(prices, told.lots))
            cheaper = [choice for choice in all_choices(plan) if price_of(prices, choice) < told.price]
            right = [one for one in cheaper if not any(set(one) < set(other) for other in cheaper)]
            self.assert_same([choice for choice, _ in told.bars], right)
            for choice, path in told.bars:
                self.assertIn(path, late_paths(plan, deadlines, choice))


class ChecksFault(Case):
    DEADLINES, PRICES = (("c", 6), ("b", 9)), (3, 2)
    RIGHT = {"lots": (0, 1), "price": 5, "bars": (((0,), ABC), ((1,), ABC))}

    def fault(self, **changes):
        return checks_fault(WIDE, self.DEADLINES, self.PRICES, Checked(**{**self.RIGHT, **changes}))

    def test_right(self):
        self.assertIsNone(self.fault())
        self.assertIsNone(self.fault(bars=[[(0,), ABC], ((1,), ABC)]))
        self.assertIsNone(checks_fault(PLAN, [("c", 3)], [7], Never(ABC)))
        self.assertIsNone(checks_fault(PLAN, [("c", 5)], [7], Checked((), 0, ())))

    def test_any_of_the_cheapest(self):
        for lots in ((1,), (0, 1)):
            self.assertIsNone(checks_fault(WIDE, [("c", 7)], (0, 0), Checked(lots, 0, ())))
        self.assertEqual(checks_fault(WIDE, [("c", 7)], (0, 0), Checked((0,), 0, ())), "late")

    def test_lots(self):
        for lots in (None, 5, (1, 0), (0, 0), (2,), (-1,), (0, 2), (True,), (False, 1), ("0",), "01", (0, 1, 2)):
            self.assertEqual(self.fault(lots=lots), "lots", lots)
            self.assertEqual(self.fault(lots=lots, price=None, bars=None), "lots")

    def test_price(self):
        for price in (None, 4, 6, -5, "5", 5.0, (5,)):
            self.assertEqual(self.fault(price=price), "price")
            self.assertEqual(self.fault(price=price, bars=None), "price")
        self.assertEqual(checks_fault(WIDE, [("c", 7)], (0, 0), Checked((1,), False, ())), "price")
        self.assertEqual(self.fault(lots=(1,), price=5), "price")

    def test_late(self):
        for lots, price in (((), 0), ((0,), 3), ((1,), 2)):
            self.assertEqual(self.fault(lots=lots, price=price), "late")
            self.assertEqual(self.fault(lots=lots, price=price, bars=None), "late")

    def test_bars(self):
        one, other = self.RIGHT["bars"]
        for bars in (None, 5, (), (one,), (other, one), (one, other, other), (((), ABC), one, other), (one, ((0, 1), ABC)),
                     (one, ((1,),)), (one, ((1,), ABC, ABC)), (one, None), ((None, ABC), other), (one, (1, ABC)), "ab"):
            self.assertEqual(self.fault(bars=bars), "bars", bars)

    def test_path(self):
        one, other = self.RIGHT["bars"]
        for path in (None, 5, (), ("a",), ("a", "b"), ("b", "c"), ("c",), ("x",), ("a", "c"), "abc", (None,), (["a"],)):
            self.assertEqual(self.fault(bars=(one, ((1,), path))), "path", path)
            self.assertEqual(self.fault(bars=(((0,), path), other)), "path", path)
            self.assertEqual(checks_fault(PLAN, [("c", 3)], [7], Never(path)), "path")

    def test_a_choice_that_is_not_the_cheapest(self):
        # A cheaper one keeps the deadline, so no path bars it.
        self.assertEqual(checks_fault(WIDE, [("c", 7)], (3, 2), Checked((0, 1), 5, (((0,), ABC), ((1,), ABC)))), "path")
        self.assertEqual(checks_fault(WIDE, [("c", 9)], (3, 2), Checked((1,), 2, (((), ABC),))), "path")

    def test_a_path_to_an_event_without_a_deadline(self):
        self.assertEqual(checks_fault(PLAN, [("b", 0), ("c", 9)], (7,), Never(ABC)), "path")
        self.assertIsNone(checks_fault(PLAN, [("b", 0), ("c", 9)], (7,), Never(("a", "b"))))

    def test_never_though_some_choice_keeps(self):
        self.assertEqual(checks_fault(PLAN, [("c", 4)], (7,), Never(ABC)), "path")


class Worth(Case):
    def test_example(self):
        self.assert_same(worth(PLAN, "c", (7,)), ((0, 5), (7, 4)))
        self.assert_same(worth(PLAN, "a", (7,)), ((0, 0),))
        self.assert_same(worth(PLAN, "b", (7,)), ((0, 3),))

    def test_by_hand(self):
        self.assert_same(worth(WIDE, "c", (3, 2)), ((0, 9), (2, 7), (5, 6)))
        self.assert_same(worth(WIDE, "c", (2, 3)), ((0, 9), (2, 8), (3, 7), (5, 6)))
        self.assert_same(worth(WIDE, "c", (0, 3)), ((0, 8), (3, 6)))
        self.assert_same(worth(WIDE, "c", (0, 0)), ((0, 6),))
        self.assert_same(worth(WIDE, "c", (2, 2)), ((0, 9), (2, 7), (4, 6)))

    def test_without_lots(self):
        self.assert_same(worth(Plan(chain(1, 1), Net(1, 1, ()), Budgets(())), "b", ()), ((0, 0),))

    def test_against_all_choices(self):
        chance = random.Random(196)
        for plan in chance_plans(197, 100, 7):
            prices = [chance.choice((0, 1, 1, 2, 4)) for _ in plan.budgets]
            for name in plan.order.names[-2:]:
                rows = {(price_of(prices, choice), earliest(checked_plan(plan, choice), name).beat) for choice in all_choices(plan)}
                right = [(price, beat) for price, beat in rows
                         if not any(other <= price and less < beat or other < price and less == beat for other, less in rows)]
                self.assert_same(worth(plan, name, prices), tuple(sorted(right)))


if __name__ == "__main__":
    unittest.main()
