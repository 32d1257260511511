"""[4.8], [4.9]"""

import unittest

from askedtrue.errors import BadOrder, BadPlan
from askedtrue.lots import Budgets
from askedtrue.nets import Net, Way
from askedtrue.orders import Order
from askedtrue.plans import Plan
from tests.helpers import Case, chain, line, two_ends

RING = Net(2, 1, [Way(1, 2, 0, 0, 3)])


def plan():
    """Events a to d at the ends 1, 3, 2, 3 of a line of three."""
    return Plan(chain(1, 3, 2, 3), line(3, lots=(2, 0, 1, 2)), Budgets([(1, 0), (2, 0), (3, 1)]))


class Plans(Case):
    def test_attributes(self):
        order, net, budgets = chain(1, 2), two_ends(), Budgets([(1, 1)])
        made = Plan(order, net, budgets)
        self.assertEqual((made.order, made.net, made.budgets), (order, net, budgets))
        self.assertEqual(Plan(budgets=budgets, net=net, order=order), made)

    def test_smallest(self):
        made = Plan(Order(()), Net(1, 1, ()), Budgets(()))
        self.assertEqual((len(made.order), made.net.ends, len(made.budgets)), (0, 1, 0))

    def test_lots_that_no_way_has(self):
        self.assertEqual(len(Plan(chain(1), two_ends(lots=(1, 1)), Budgets([(0, 0)] * 4)).budgets), 4)

    def test_tree(self):
        self.assert_raises(BadPlan("tree"), Plan, chain(5), RING, Budgets(()))
        self.assert_raises(BadPlan("tree"), Plan, chain(1), Net(2, 1, ()), Budgets(()))

    def test_end(self):
        self.assert_raises(BadPlan("end"), Plan, chain(1, 3), two_ends(), Budgets(()))
        self.assert_raises(BadPlan("end"), Plan, chain(2), Net(1, 1, ()), Budgets(()))

    def test_lots(self):
        self.assert_raises(BadPlan("lots"), Plan, chain(1, 2), two_ends(), Budgets(()))
        self.assert_raises(BadPlan("lots"), Plan, chain(1, 2), two_ends(lots=(0, 1)), Budgets([(0, 0)]))

    def test_exchanged(self):
        old = plan()
        self.assertEqual(old.with_order(chain(1, 2)), Plan(chain(1, 2), old.net, old.budgets))
        self.assertEqual(old.with_net(line(3)), Plan(old.order, line(3), old.budgets))
        self.assertEqual(old.with_budgets(Budgets([(0, 0)] * 4)), Plan(old.order, old.net, Budgets([(0, 0)] * 4)))
        self.assertEqual(old, plan())

    def test_exchange_refuses(self):
        self.assert_raises(BadPlan("end"), plan().with_order, chain(1, 4))
        self.assert_raises(BadPlan("tree"), plan().with_net, RING)
        self.assert_raises(BadPlan("end"), plan().with_net, two_ends(lots=(3, 3)))
        self.assert_raises(BadPlan("lots"), plan().with_net, line(3, lots=(3,)))
        self.assert_raises(BadPlan("lots"), plan().with_budgets, Budgets([(0, 0)] * 2))

    def test_equality(self):
        old = plan()
        self.assert_equals(plan, [old.with_order(chain(1)), old.with_net(line(3)), old.with_budgets(Budgets([(0, 0)] * 3))])

    def test_route(self):
        self.assert_same(plan().route("a", "b"), (0, 2))
        self.assert_same(plan().route("b", "a"), (3, 1))
        self.assert_same(plan().route("c", "a"), (1,))
        self.assert_same(plan().route("b", "d"), ())
        self.assert_same(plan().route("a", "a"), ())

    def test_could(self):
        self.assert_same(plan().could("a", "b"), 5)
        self.assert_same(plan().could("b", "a"), 4)
        self.assert_same(plan().could("c", "a"), 1)
        self.assert_same(plan().could("b", "d"), 0)

    def test_touched(self):
        self.assert_same(plan().touched("a", "b"), (1, 2))
        self.assert_same(plan().touched("b", "a"), (0, 2))
        self.assert_same(plan().touched("b", "d"), ())

    def test_unknown(self):
        for call in (plan().route, plan().could, plan().touched):
            for name in ("x", None, 1, ["a"]):
                self.assert_raises(BadOrder("unknown", name), call, name, "y")
                self.assert_raises(BadOrder("unknown", name), call, "a", name)


if __name__ == "__main__":
    unittest.main()
