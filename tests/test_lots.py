"""[4.1] to [4.3]"""

import unittest

from askedtrue.errors import BadLots, BadNet
from askedtrue.lots import Budgets, could, touched
from askedtrue.nets import Net
from tests.helpers import Case, line, two_ends

NO_LOTS = (-1, 2, None, True, False, "0", 0.0, (0,), [0])
NO_ROUTES = (None, 0, "0", {}, (0, 0), (0, 1, 1), (6,), (-1,), (0, 4), [None], [True], (False,), [[0]], ("0",))


class TheBudgets(Case):
    def test_attributes(self):
        pairs = [[1, 0], (0, 2)]
        budgets = Budgets(pairs)
        pairs[0][0] = 5
        pairs.append((1, 1))
        self.assert_same(budgets.pairs, ((1, 0), (0, 2)))
        self.assert_same((budgets.total, len(budgets), list(budgets)), (3, 2, [(1, 0), (0, 2)]))

    def test_none_and_greatest(self):
        for nothing in ((), []):
            budgets = Budgets(nothing)
            self.assert_same((budgets.pairs, budgets.total, len(budgets), list(budgets)), ((), 0, 0, []))
        self.assert_same(Budgets([(8, 0)]).total, 8)
        self.assert_same(Budgets([(1, 1)] * 4).total, 8)

    def test_pairs(self):
        for pairs in (None, 1, "", {}, [(0, 0)] * 5, [None] * 5, True):
            self.assert_raises(BadLots("pairs", None), Budgets, pairs)

    def test_pair_in_pairs(self):
        for pair in (None, 1, "01", {0: 0, 1: 1}, (), (1,), (1, 1, 1), (-1, 0), (0, -1), (True, 0), (0, False), ("0", 0),
                     (0, None), (1.0, 0), ((0,), 0)):
            self.assert_raises(BadLots("pair", 0), Budgets, [pair, None])
            self.assert_raises(BadLots("pair", 3), Budgets, [(9, 9), (0, 0), [0, 0], pair])

    def test_many(self):
        for pairs in ([(9, 0)], [(0, 9)], [(4, 5)], [(2, 1)] * 3, [(0, 0), (0, 0), (0, 0), (0, 9)], [(10 ** 300, 0)]):
            self.assert_raises(BadLots("many", None), Budgets, pairs)

    def test_pair(self):
        budgets = Budgets([(1, 0), (0, 2)])
        self.assert_same((budgets.pair(0), budgets.pair(1)), ((1, 0), (0, 2)))
        for lot in NO_LOTS:
            self.assert_raises(BadLots("lot", None), budgets.pair, lot)
        self.assert_raises(BadLots("lot", None), Budgets(()).pair, 0)

    def test_with_pair(self):
        budgets = Budgets([(1, 0), (0, 2)])
        pair = [3, 3]
        self.assertEqual(budgets.with_pair(0, pair), Budgets([(3, 3), (0, 2)]))
        self.assertEqual(budgets.with_pair(1, (0, 0)), Budgets([(1, 0), (0, 0)]))
        self.assert_same(budgets.with_pair(1, pair).pairs, ((1, 0), (3, 3)))
        self.assertEqual(budgets, Budgets([(1, 0), (0, 2)]))

    def test_with_pair_refuses(self):
        budgets = Budgets([(1, 0), (0, 2)])
        for lot in NO_LOTS:
            self.assert_raises(BadLots("lot", None), budgets.with_pair, lot, None)
        for pair in (None, (1,), (0, -1), [True, 0]):
            self.assert_raises(BadLots("pair", 1), budgets.with_pair, 1, pair)
        self.assert_raises(BadLots("many", None), budgets.with_pair, 1, (4, 4))

    def test_covers(self):
        budgets = Budgets([(1, 0), (0, 2)])
        for pairs in ([(1, 0), (0, 2)], [(0, 0), (0, 0)], [(1, 0), (0, 1)]):
            self.assertIs(budgets.covers(Budgets(pairs)), True)
        for pairs in ([(2, 0), (0, 2)], [(1, 1), (0, 2)], [(1, 0), (1, 2)], [(1, 0), (0, 3)], [(1, 0)], (),
                      [(1, 0), (0, 2), (0, 0)]):
            self.assertIs(budgets.covers(Budgets(pairs)), False)
        self.assertIs(Budgets(()).covers(Budgets([])), True)

    def test_equality(self):
        self.assert_equals(lambda: Budgets([[1, 0], (0, 2)]), [
            Budgets([(1, 0)]), Budgets([(1, 0), (0, 3)]), Budgets([(0, 1), (0, 2)]), Budgets(()), ((1, 0), (0, 2))])


class Routes(Case):
    def test_touched(self):
        net = line(4, lots=(3, 0, 1, 2, 3, 0))
        self.assert_same(touched(net, (0, 2, 4)), (1, 3))
        self.assert_same(touched(net, [5, 3, 1]), (0, 2))
        self.assert_same(touched(net, [4]), (3,))
        self.assert_same(touched(net, (0, 1, 0)), (0, 3))
        self.assert_same(touched(net, ()), ())

    def test_could(self):
        net = line(4, lots=(3, 0, 1, 2, 3, 0))
        budgets = Budgets([(0, 1), (1, 0), (2, 0), (3, 1)])
        self.assert_same(could(net, budgets, (0, 2, 4)), 4)
        self.assert_same(could(net, budgets, [5, 3, 1]), 2)
        self.assert_same(could(net, budgets, (5,)), 0)
        self.assert_same(could(net, budgets, ()), 0)
        self.assert_same(could(net, Budgets(()), ()), 0)

    def test_could_refuses_a_lot_without_a_pair(self):
        net = line(4, lots=(3, 0, 1, 2, 3, 0))
        self.assert_raises(BadLots("lot", 1), could, net, Budgets([(0, 0)]), (0, 2, 4))
        self.assert_raises(BadLots("lot", 3), could, net, Budgets([(0, 0)] * 3), (0, 2, 4))
        self.assert_raises(BadLots("lot", 0), could, net, Budgets(()), [5, 3, 1])

    def test_refused_routes(self):
        net = line(4, lots=(3, 0, 1, 2, 3, 0))
        for route in NO_ROUTES:
            self.assert_raises(BadNet("route", None), touched, net, route)
            self.assert_raises(BadNet("route", None), could, net, Budgets(()), route)
        self.assert_raises(BadNet("route", None), touched, Net(1, 1, ()), (0,))

    def test_routes_are_not_changed(self):
        route = [0, 1, 0]
        touched(two_ends(), route)
        could(two_ends(), Budgets([(1, 1)]), route)
        self.assertEqual(route, [0, 1, 0])


if __name__ == "__main__":
    unittest.main()
