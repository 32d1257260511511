"""[6.1] to [6.4], and the first half of the example [6.8]"""

import itertools
import random
import unittest

from askedtrue.errors import BadDeadline, BadOrder
from askedtrue.lots import Budgets
from askedtrue.margins import Inequality, first_broken, inequalities
from askedtrue.nets import Net
from askedtrue.orders import Event, Order
from askedtrue.plans import Plan
from askedtrue.times import earliest
from tests.helpers import Case, chain, chance_plans, line, two_ends
from tests.walks import all_paths, path_facts

ORDER = Order([Event("a", 1, "query"), Event("b", 2, "query", ("a",)), Event("c", 1, "action", ("b",))])
PLAN = Plan(ORDER, two_ends(), Budgets([(1, 1)]))


def row_of(plan, path, beat):
    """The inequality of a path, from the words of [6.2]."""
    events = {event.name: event for event in plan.order.events}
    es, fs = [0] * len(plan.budgets), [0] * len(plan.budgets)
    for elder, name in zip(path, path[1:]):
        lots = {plan.net.ways[way].lot for way in plan.net.route(events[elder].end, events[name].end)}
        for lot in lots:
            fs[lot] = 1
            es[lot] += events[name].kind == "action"
    es = tuple(e + f for e, f in zip(es, fs))
    return Inequality(es, tuple(fs), (beat - path_facts(plan, path)[0]) // plan.net.period, path)


def walked(plan, deadlines):
    """What inequalities should return, from the words of [6.3]."""
    rows = []
    for name, beat in deadlines:
        for path in all_paths(plan.order, name):
            row = row_of(plan, path, beat)
            if (row.es, row.fs, row.room) not in [(other.es, other.fs, other.room) for other in rows]:
                rows.append(row)
    kept = [row for row in rows if not any(
        other is not row and all(x >= y for x, y in zip(other.es + other.fs, row.es + row.fs)) and other.room <= row.room
        for other in rows)]
    return tuple(sorted(kept, key=lambda row: (row.es, row.fs, row.room)))


def chance_deadlines(chance, plan, many):
    """Deadlines near to the earliest times."""
    names = [chance.choice(plan.order.names) for _ in range(many)] if len(plan.order) else []
    return [(name, max(0, earliest(plan, name).beat + chance.randint(-9, 9))) for name in names]


class Results(Case):
    def test_inequality(self):
        self.assert_equals(lambda: Inequality((1,), (0,), 3, ("a",)), [
            Inequality((2,), (0,), 3, ("a",)), Inequality((1,), (1,), 3, ("a",)), Inequality((1,), (0,), 4, ("a",)),
            Inequality((1,), (0,), 3, ("b",)), ((1,), (0,), 3, ("a",))])
        self.assertEqual(Inequality(path=4, room=3, fs=2, es=1), Inequality(1, 2, 3, 4))

    def test_it_keeps_its_arguments(self):
        things = [[1], None, "x", {}]
        row = Inequality(*things)
        self.assertTrue(all(one is other for one, other in zip((row.es, row.fs, row.room, row.path), things)))


class Inequalities(Case):
    def test_example(self):
        for deadline in (0, 1, 2, 6, 1200):
            self.assertEqual(inequalities(PLAN, [("c", deadline)]), (Inequality((2,), (1,), deadline - 2, ("a", "b", "c")),))

    def test_without_deadlines(self):
        self.assert_same(inequalities(PLAN, ()), ())
        self.assert_same(inequalities(PLAN, []), ())

    def test_room_is_in_whole_periods(self):
        plan = Plan(ORDER, two_ends(3, phases=(1, 0)), Budgets([(0, 0)]))
        # b is heard at 1, c at 3.
        self.assertEqual([inequalities(plan, [("c", beat)])[0].room for beat in (0, 2, 3, 5, 6, 8, 9)], [-1, -1, 0, 0, 1, 1, 2])

    def test_one_number_for_each_lot_of_the_budgets(self):
        plan = Plan(ORDER, two_ends(lots=(0, 2)), Budgets([(1, 1), (0, 3), (2, 0), (1, 0)]))
        row = inequalities(plan, [("c", 9)])[0]
        self.assert_same((row.es, row.fs, row.room, row.path), ((1, 0, 2, 0), (1, 0, 1, 0), 7, ("a", "b", "c")))
        self.assertEqual(inequalities(plan.with_budgets(Budgets([(0, 0)] * 4)), [("c", 9)]), (row,))

    def test_without_lots(self):
        plan = Plan(chain(1, 1), Net(1, 2, ()), Budgets(()))
        self.assertEqual(inequalities(plan, [("b", 5), ("a", 3)]), (Inequality((), (), 1, ("a",)),))

    def test_least_room_of_several_deadlines(self):
        rows = inequalities(PLAN, [("c", 9), ("c", 7), ["c", 8]])
        self.assertEqual(rows, (Inequality((2,), (1,), 5, ("a", "b", "c")),))

    def test_first_of_equal_ones_by_deadlines(self):
        order = Order([Event("a", 1, "query"), Event("b", 2, "query", ("a",)), Event("c", 2, "query", ("a",))])
        plan = PLAN.with_order(order)
        for names in ("bc", "cb"):
            rows = inequalities(plan, [(name, 5) for name in names])
            self.assertEqual(rows, (Inequality((1,), (1,), 4, ("a", names[0])),))
        rows = inequalities(plan, [("b", 6), ("c", 5)])
        self.assertEqual(rows, (Inequality((1,), (1,), 4, ("a", "c")),))

    def test_first_of_equal_ones_by_paths(self):
        order = Order([Event("a", 1, "query"), Event("b", 2, "query", ("a",)), Event("c", 2, "query", ("a",)),
                       Event("d", 1, "query", ("c", "b"))])
        rows = inequalities(PLAN.with_order(order), [("d", 5)])
        self.assertEqual(rows, (Inequality((1,), (1,), 3, ("a", "b", "d")),))

    def test_ascending(self):
        plan = Plan(chain(1, 2, 3), line(3, lots=(0, 0, 1, 1)), Budgets([(0, 0)] * 2))
        rows = inequalities(plan, [("c", 9), ("b", 2), ("a", 0)])
        self.assertEqual(rows, (Inequality((0, 0), (0, 0), 0, ("a",)), Inequality((1, 0), (1, 0), 1, ("a", "b")),
                                Inequality((1, 1), (1, 1), 7, ("a", "b", "c"))))

    def test_needless(self):
        plan = Plan(chain(1, 2, 3), line(3, lots=(0, 0, 1, 1)), Budgets([(0, 0)] * 2))
        rows = inequalities(plan, [("b", 9), ("c", 3), ("a", 0)])
        self.assertEqual(rows, (Inequality((0, 0), (0, 0), 0, ("a",)), Inequality((1, 1), (1, 1), 1, ("a", "b", "c"))))
        rows = inequalities(plan, [("b", 2), ("c", 3)])
        self.assertEqual(rows, (Inequality((1, 1), (1, 1), 1, ("a", "b", "c")),))

    def test_returned_things_are_tuples(self):
        rows = inequalities(PLAN, [["c", 5]])
        self.assertIs(type(rows), tuple)
        for row in rows:
            self.assert_same([type(thing) for thing in (row.es, row.fs, row.path)], [tuple] * 3)

    def test_deadlines_are_not_changed(self):
        deadlines = [["c", 5], ("b", 1)]
        inequalities(PLAN, deadlines)
        self.assertEqual(deadlines, [["c", 5], ("b", 1)])

    def test_against_a_walk(self):
        chance = random.Random(21)
        for plan in chance_plans(22, 120):
            deadlines = chance_deadlines(chance, plan, chance.randint(0, 5))
            rows = inequalities(plan, deadlines)
            self.assertEqual(rows, walked(plan, deadlines))
            self.assertEqual(inequalities(plan, tuple(deadlines)), rows)

    def test_against_a_walk_at_the_greatest_size(self):
        chance = random.Random(23)
        for plan in chance_plans(24, 3, 12, needs=3):
            deadlines = [*chance_deadlines(chance, plan, 22), (plan.order.names[-1], 9), (plan.order.names[-1], 90)]
            self.assertEqual(inequalities(plan, deadlines), walked(plan, deadlines))

    def test_they_hold_exactly_if_the_deadlines_stand(self):
        chance = random.Random(25)
        for plan in chance_plans(26, 60):
            deadlines = chance_deadlines(chance, plan, 3)
            rows = inequalities(plan, deadlines)
            for _ in range(10):
                pairs = [(chance.randint(0, 1), chance.randint(0, 1)) for _ in range(4)]
                other = plan.with_budgets(Budgets(pairs))
                stand = all(earliest(other, name).beat <= beat for name, beat in deadlines)
                self.assertEqual(first_broken(rows, pairs) is None, stand)


class Refused(Case):
    def test_no_sequence(self):
        for deadlines in (None, 0, "c5", {}, {"c": 5}, iter([("c", 5)])):
            self.assert_raises(BadDeadline(None), inequalities, PLAN, deadlines)

    def test_no_deadline(self):
        for thing in (None, 0, "c5", (), ("c",), ("c", 5, 5), ["c"], ("C", 5), ("", 5), (None, 5), (1, 5), (["c"], 5),
                      ("abcdefghi", 5), ("c", -1), ("c", None), ("c", True), ("c", False), ("c", "5"), ("c", 5.0), ("c", (5,))):
            self.assert_raises(BadDeadline(0), inequalities, PLAN, [thing])
            self.assert_raises(BadDeadline(1), inequalities, PLAN, (("c", 0), thing, ("x", 0)))

    def test_unknown(self):
        self.assert_raises(BadOrder("unknown", "x"), inequalities, PLAN, [("x", 5)])
        self.assert_raises(BadOrder("unknown", "x"), inequalities, PLAN, [("c", 5), ["x", 5], None])
        self.assert_raises(BadDeadline(0), inequalities, PLAN, [("x", -5), ("y", 5)])


class FirstBroken(Case):
    ROWS = (Inequality((2, 0), (1, 0), 4, ()), Inequality((0, 1), (0, 3), 5, ()), Inequality((1, 1), (1, 1), 7, ()))

    def test_first_broken(self):
        for pairs, place in (
                (((0, 0), (0, 0)), None), (((2, 0), (0, 0)), None), (((2, 1), (0, 0)), 0), (((0, 4), (0, 0)), None),
                (((0, 5), (9, 9)), 0), (((0, 0), (2, 1)), None), (((0, 0), (3, 1)), 1), (((0, 0), (0, 2)), 1),
                (((0, 3), (5, 0)), 2), (((0, 2), (5, 0)), None)):
            self.assert_same(first_broken(self.ROWS, pairs), place)
            self.assert_same(first_broken(list(self.ROWS), [list(pair) for pair in pairs]), place)

    def test_none(self):
        self.assertIsNone(first_broken((), ()))
        self.assertIsNone(first_broken([], [(9, 9)]))
        self.assertIsNone(first_broken([Inequality((), (), 0, ("a",))], ()))
        self.assert_same(first_broken([Inequality((), (), -1, ("a",))], ()), 0)

    def test_any_size(self):
        big = 10 ** 290
        self.assertIsNone(first_broken([Inequality((2,), (1,), 3 * big, ())], [(big, big)]))
        self.assert_same(first_broken([Inequality((2,), (1,), 3 * big, ())], [(big, big + 1)]), 0)

    def test_example(self):
        rows = inequalities(PLAN, [("c", 6)])
        stands = [(e, f) for e, f in itertools.product(range(5), repeat=2) if first_broken(rows, [(e, f)]) is None]
        self.assertEqual(stands, [(0, 0), (0, 1), (0, 2), (0, 3), (0, 4), (1, 0), (1, 1), (1, 2), (2, 0)])


if __name__ == "__main__":
    unittest.main()
