"""[5.1] to [5.5], and the example [5.9]"""

import unittest

from askedtrue.errors import BadOrder, BadPath
from askedtrue.lots import Budgets
from askedtrue.nets import Net, Way
from askedtrue.orders import Event, Order
from askedtrue.plans import Plan
from askedtrue.times import Crossing, Timed, crossings, earliest, latest, path_time, paths
from askedtrue.turns import arrive
from tests.helpers import Case, chain, chance_plans, line, two_ends
from tests.walks import all_paths, path_facts

NO_NAMES = ("x", "", None, 0, 1, True, ["a"], ("a",), {})


def diamond(last="query"):
    """An event d with the needs c and b, which need a; and e, which needs a alone."""
    return Order([Event("a", 1, "query"), Event("b", 2, "query", ("a",)), Event("c", 3, "query", ("a",)),
                  Event("d", 1, last, ("c", "b")), Event("e", 2, "action", ("a",))])


def diamond_plan(last="query", pairs=((1, 0), (0, 2)), lots=(0, 1)):
    return Plan(diamond(last), line(3, lots=lots), Budgets(pairs))


class Results(Case):
    def test_crossing(self):
        self.assert_equals(lambda: Crossing("a", "b", (0,), (1,), (2,)), [
            Crossing("c", "b", (0,), (1,), (2,)), Crossing("a", "c", (0,), (1,), (2,)), Crossing("a", "b", (), (1,), (2,)),
            Crossing("a", "b", (0,), (), (2,)), Crossing("a", "b", (0,), (1,), ()), ("a", "b", (0,), (1,), (2,))])

    def test_timed(self):
        self.assert_equals(lambda: Timed(3, ("a",), 1, 2), [
            Timed(4, ("a",), 1, 2), Timed(3, ("b",), 1, 2), Timed(3, ("a",), 2, 2), Timed(3, ("a",), 1, 1), (3, ("a",), 1, 2)])

    def test_they_keep_their_arguments(self):
        things = [[1], None, "x", (), {}]
        crossing = Crossing(*things)
        kept = (crossing.elder, crossing.name, crossing.ways, crossing.sure, crossing.last)
        self.assertTrue(all(one is other for one, other in zip(kept, things)))
        timed = Timed(*things[:4])
        self.assertTrue(all(one is other for one, other in zip((timed.beat, timed.path, timed.clean, timed.held), things)))

    def test_parameters_by_name(self):
        self.assertEqual(Crossing(last=5, sure=4, ways=3, name=2, elder=1), Crossing(1, 2, 3, 4, 5))
        self.assertEqual(Timed(held=4, clean=3, path=2, beat=1), Timed(1, 2, 3, 4))


class Paths(Case):
    def test_without_needs(self):
        self.assert_same(list(paths(diamond(), "a")), [("a",)])
        self.assert_same(list(paths(chain(1, kind="action"), "a")), [("a",)])

    def test_order_of_paths(self):
        # Read from the last event back: first those whose next to last event is the eldest.
        self.assert_same(list(paths(diamond(), "d")), [("a", "b", "d"), ("a", "c", "d")])
        self.assert_same(list(paths(diamond("action"), "d")), [("a", "d"), ("a", "b", "d"), ("a", "c", "d")])
        self.assert_same(list(paths(chain(1, 1, 1).as_kind("c", "action"), "c")), [("a", "c"), ("a", "b", "c")])

    def test_is_a_generator(self):
        found = paths(diamond(), "d")
        self.assertEqual(next(found), ("a", "b", "d"))
        self.assertEqual(next(found), ("a", "c", "d"))
        self.assertIsNone(next(found, None))

    def test_unknown(self):
        for name in NO_NAMES:
            self.assert_raises(BadOrder("unknown", name), paths, diamond(), name)

    def test_against_a_walk(self):
        for plan in chance_plans(8, 60):
            for name in plan.order.names:
                self.assert_same(list(paths(plan.order, name)), all_paths(plan.order, name))


class Crossings(Case):
    def test_into_queries(self):
        plan = diamond_plan()
        self.assertEqual(crossings(plan, ("a", "c", "d")), (
            Crossing("a", "c", (0, 2), (), (0,)), Crossing("c", "d", (3, 1), (), (1,))))

    def test_into_actions(self):
        plan = diamond_plan("action", lots=(1, 1, 0, 0))
        self.assertEqual(crossings(plan, ["a", "c", "d"]), (
            Crossing("a", "c", (0, 2), (), ()), Crossing("c", "d", (3, 1), (0, 1), (0, 1))))
        self.assertEqual(crossings(plan, ("a", "d")), (Crossing("a", "d", (), (), ()),))

    def test_last_is_for_the_last_crossing_that_touches(self):
        # Events at 1, 2, 3, 2, 1: the lots of ways 0 and 2 come again on the way back but for lot 2.
        net = line(3, lots=(0, 0, 2, 1))
        plan = Plan(chain(1, 2, 3, 2, 1), net, Budgets([(1, 0)] * 3))
        self.assertEqual([crossing.last for crossing in crossings(plan, "a b c d e".split())], [(), (2,), (1,), (0,)])

    def test_last_behind_crossings_into_actions(self):
        order = Order([Event("a", 1, "query"), Event("b", 2, "action", ("a",)), Event("c", 1, "query", ("b",))])
        plan = Plan(order, two_ends(), Budgets([(1, 1)]))
        self.assertEqual(crossings(plan, ("a", "b", "c")), (
            Crossing("a", "b", (0,), (0,), ()), Crossing("b", "c", (1,), (), (0,))))

    def test_of_one_event(self):
        self.assert_same(crossings(diamond_plan(), ("a",)), ())

    def test_tuples_throughout(self):
        found = crossings(diamond_plan("action"), ["a", "b", "d"])
        self.assertIs(type(found), tuple)
        for crossing in found:
            self.assert_same([type(thing) for thing in (crossing.ways, crossing.sure, crossing.last)], [tuple] * 3)

    def test_refused(self):
        for call in (crossings, path_time):
            for path in (None, 0, "a", "", {}, (), [], diamond()):
                self.assert_raises(BadPath(None), call, diamond_plan(), path)
            for name in NO_NAMES:
                self.assert_raises(BadPath(0), call, diamond_plan(), (name, "x"))
                self.assert_raises(BadPath(1), call, diamond_plan(), ["a", name, "d"])
            for at, path in ((0, ("b", "d")), (0, ("d",)), (1, ("a", "a")), (1, ("a", "d")), (2, ("a", "b", "c")),
                             (2, ("a", "b", "b")), (3, ("a", "b", "d", "e")), (2, ["a", "e", "d"]), (1, ("a", "x", "b"))):
                self.assert_raises(BadPath(at), call, diamond_plan(), path)

    def test_paths_are_not_changed(self):
        path = ["a", "b", "d"]
        timed = path_time(diamond_plan(), path)
        path.pop()
        self.assert_same(timed.path, ("a", "b", "d"))


class PathTimes(Case):
    def test_clean_and_held(self):
        net = Net(2, 4, [Way(1, 2, 3, 2, 0), Way(2, 1, 0, 1, 1)])
        order = Order([Event("a", 1, "query"), Event("b", 2, "action", ("a",)), Event("c", 1, "action", ("b",))])
        plan = Plan(order, net, Budgets([(1, 2), (2, 0)]))
        # Sent at 3, heard at 5, sent at 8, heard at 9.
        self.assertEqual(path_time(plan, ("a",)), Timed(0, ("a",), 0, 0))
        self.assertEqual(path_time(plan, ("a", "b")), Timed(5 + 4 * 4, ("a", "b"), 5, 4 * (1 + 3)))
        self.assertEqual(path_time(plan, ["a", "b", "c"]), Timed(9 + 4 * 8, ("a", "b", "c"), 9, 4 * (1 + 3 + 2 + 2)))

    def test_a_lot_is_held_once_but_sure_at_each_action(self):
        order = Order([Event("a", 1, "query"), Event("b", 2, "action", ("a",)), Event("c", 1, "action", ("b",))])
        plan = Plan(order, two_ends(), Budgets([(2, 3)]))
        self.assertEqual(path_time(plan, ("a", "b", "c")), Timed(2 + 9, ("a", "b", "c"), 2, 2 + 2 + 5))

    def test_by_hand_on_all_small_plans(self):
        for plan in chance_plans(9, 60):
            for name in plan.order.names:
                for path in all_paths(plan.order, name):
                    clean, held, _, _ = path_facts(plan, path)
                    self.assertEqual(path_time(plan, path), Timed(clean + held, path, clean, held))


class Earliest(Case):
    def test_example(self):
        order = Order([Event("a", 1, "query"), Event("b", 2, "action", ("a",))])
        plan = Plan(order, two_ends(), Budgets([(1, 0)]))
        self.assertEqual(earliest(plan, "b"), Timed(3, ("a", "b"), 1, 2))
        self.assertEqual(earliest(plan.with_order(order.as_kind("b", "query")), "b"), Timed(2, ("a", "b"), 1, 1))
        order = Order([Event("a", 1, "query"), Event("b", 2, "query", ("a",)), Event("c", 1, "action", ("b",))])
        plan = Plan(order, two_ends(), Budgets([(1, 1)]))
        self.assertEqual([earliest(plan, name).beat for name in "abc"], [0, 3, 5])
        self.assertEqual(earliest(plan, "c"), Timed(5, ("a", "b", "c"), 2, 3))

    def test_first_of_several(self):
        plan = Plan(diamond(), line(3, lots=(0,)), Budgets([(0, 0)])).with_net(
            Net(3, 1, [Way(1, 2, 0, 0, 0), Way(2, 1, 0, 0, 0), Way(1, 3, 0, 0, 0), Way(3, 1, 0, 0, 0)]))
        self.assertEqual(earliest(plan, "d"), Timed(2, ("a", "b", "d"), 2, 0))

    def test_first_of_several_where_a_slower_beginning_comes_to_the_same(self):
        # From end 2 on all goes with the turn at beat 6, whether one is there at beat 1 or 3.
        net = Net(3, 6, [Way(1, 2, 1, 0, 0), Way(2, 1, 0, 0, 0), Way(3, 2, 3, 0, 0), Way(2, 3, 0, 0, 0)])
        order = Order([Event("a", 1, "query"), Event("b", 3, "query"), Event("c", 2, "query", ("b", "a")),
                       Event("d", 1, "query", ("c",))])
        plan = Plan(order, net, Budgets([(0, 0)]))
        self.assertEqual(earliest(plan, "c"), Timed(3, ("b", "c"), 3, 0))
        self.assertEqual(earliest(plan, "d"), Timed(6, ("a", "c", "d"), 6, 0))

    def test_zero(self):
        plan = Plan(chain(2, 2, 2, kind="action"), two_ends(), Budgets([(4, 4)]))
        self.assertEqual(earliest(plan, "c"), Timed(0, ("a", "b", "c"), 0, 0))

    def test_unknown(self):
        for name in NO_NAMES:
            self.assert_raises(BadOrder("unknown", name), earliest, diamond_plan(), name)

    def judge(self, plan):
        beats = []
        for name in plan.order.names:
            walked = [path_time(plan, path) for path in all_paths(plan.order, name)]
            beats.append(max(timed.beat for timed in walked))
            first = [timed for timed in walked if timed.beat == beats[-1]][0]
            self.assertEqual(earliest(plan, name), first)
        if not beats:
            self.assertIsNone(latest(plan))
            return
        name = plan.order.names[beats.index(max(beats))]
        self.assertEqual(latest(plan), earliest(plan, name))

    def test_against_a_walk(self):
        for plan in chance_plans(10, 150):
            self.judge(plan)

    def test_against_a_walk_at_the_greatest_size(self):
        for plan in chance_plans(11, 4, 12, needs=3):
            self.judge(plan)

    def test_latest(self):
        plan = Plan(chain(1, 2, 1), two_ends(), Budgets([(1, 1)]))
        self.assertEqual(latest(plan), earliest(plan, "c"))
        self.assertIsNone(latest(plan.with_order(Order(()))))
        self.assertEqual(latest(plan.with_order(chain(1, 1))).path, ("a",))
        order = Order([Event("a", 1, "query"), Event("b", 2, "query", ("a",)), Event("c", 2, "query", ("a",))])
        self.assertEqual(latest(plan.with_order(order)).path, ("a", "b"))


class Facts(Case):
    def test_a_period_later(self):
        for plan in chance_plans(15, 20):
            for start in range(1, plan.net.ends + 1):
                route = plan.net.route(1, start)
                for beat in range(12):
                    self.assertEqual(arrive(plan.net, route, beat + plan.net.period),
                                     arrive(plan.net, route, beat) + plan.net.period)

    def test_a_lot_split_into_two(self):
        for plan in chance_plans(16, 40):
            lots = [way.lot % 2 for way in plan.net.ways]
            for pair in ((1, 0), (0, 1), (1, 1)):
                whole = plan.with_net(plan.net.with_lots(lots)).with_budgets(Budgets([pair, (1, 2)]))
                halves = [2 if lot == 0 and at % 3 else lot for at, lot in enumerate(lots)]
                split = whole.with_budgets(Budgets([pair, (1, 2), pair])).with_net(whole.net.with_lots(halves))
                for name in plan.order.names:
                    self.assertLessEqual(earliest(whole, name).beat, earliest(split, name).beat)

    def test_budgets(self):
        for plan in chance_plans(12, 40):
            for lot, (corrupted, lost) in enumerate(plan.budgets):
                for pair in ((corrupted + 1, lost), (corrupted, lost + 1)):
                    if plan.budgets.total < 8:
                        other = plan.with_budgets(plan.budgets.with_pair(lot, pair))
                        for name in plan.order.names:
                            self.assertLessEqual(earliest(plan, name).beat, earliest(other, name).beat)

    def test_query_made_an_action(self):
        for plan in chance_plans(13, 40):
            for name in plan.order.names:
                other = plan.with_order(plan.order.as_kind(name, "action"))
                for later in plan.order.names:
                    if plan.order.event(name).kind == "query":
                        self.assertLessEqual(earliest(plan, later).beat, earliest(other, later).beat)

    def test_zero_where_all_forebears_are_at_one_end(self):
        for plan in chance_plans(14, 60):
            for name in plan.order.names:
                ends = {plan.order.event(step).end for path in all_paths(plan.order, name) for step in path}
                if len(ends) == 1:
                    self.assertEqual(earliest(plan, name).beat, 0)


if __name__ == "__main__":
    unittest.main()
