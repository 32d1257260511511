"""[10.1]"""

import random
import unittest

from askedtrue.errors import BadOrder
from askedtrue.lots import Budgets
from askedtrue.nets import Net, Way
from askedtrue.orders import Event, Order
from askedtrue.passages import HeldTurn, Passage, passages
from askedtrue.plans import Plan
from askedtrue.times import Crossing, crossings, earliest
from tests.helpers import Case, chain, chance_plans, line, two_ends

ORDER = Order([Event("a", 1, "query"), Event("b", 2, "query", ("a",)), Event("c", 1, "action", ("b",))])


def rows_of(passage):
    """A passage as plain tuples."""
    return (passage.crossing.elder, passage.crossing.name, passage.start, passage.beat,
            tuple((turn.way, turn.beat, turn.kind) for turn in passage.held))


class Results(Case):
    def test_held_turn(self):
        self.assert_equals(lambda: HeldTurn(1, 2, 3), [HeldTurn(0, 2, 3), HeldTurn(1, 3, 3), HeldTurn(1, 2, 1)])
        self.assertEqual(HeldTurn(kind=3, beat=2, way=1), HeldTurn(1, 2, 3))

    def test_passage(self):
        self.assert_equals(lambda: Passage(1, 2, (HeldTurn(0, 0, 1),), 4), [
            Passage(0, 2, (HeldTurn(0, 0, 1),), 4), Passage(1, 3, (HeldTurn(0, 0, 1),), 4),
            Passage(1, 2, (HeldTurn(0, 0, 2),), 4), Passage(1, 2, (HeldTurn(0, 0, 1),), 5)])
        self.assertEqual(Passage(beat=4, held=3, start=2, crossing=1), Passage(1, 2, 3, 4))
        held = [1]
        self.assertIs(Passage(1, 2, held, 4).held, held)


class Passages(Case):
    def test_by_hand(self):
        plan = Plan(ORDER, two_ends(), Budgets([(1, 1)]))
        self.assert_same([rows_of(passage) for passage in passages(plan, "c")], [
            ("a", "b", 0, 1, ()), ("b", "c", 1, 5, ((1, 2, 1), (1, 3, 2), (1, 4, 3)))])
        self.assert_same([rows_of(passage) for passage in passages(plan, "b")], [("a", "b", 0, 3, ((0, 1, 2), (0, 2, 3)))])
        self.assert_same(passages(plan, "a"), ())

    def test_kinds_one_behind_another_and_a_period_apart(self):
        plan = Plan(chain(1, 2, kind="action"), two_ends(3, (2, 0), (1, 0)), Budgets([(2, 1)]))
        self.assert_same([rows_of(passage) for passage in passages(plan, "b")], [
            ("a", "b", 0, 18, ((0, 1, 1), (0, 4, 1), (0, 7, 2), (0, 10, 2), (0, 13, 3)))])

    def test_the_first_way_of_each_lot(self):
        plan = Plan(chain(1, 4, kind="action"), line(4, lots=(0, 0, 1, 1, 0, 0)), Budgets([(1, 0), (0, 2)]))
        self.assert_same([rows_of(passage) for passage in passages(plan, "b")], [
            ("a", "b", 0, 7, ((0, 1, 1), (0, 2, 2), (2, 4, 3), (2, 5, 3)))])

    def test_only_lots_that_no_later_crossing_touches(self):
        net = line(3, lots=(0, 1, 2, 3))
        plan = Plan(chain(1, 3, 1, kind="action"), net, Budgets([(1, 0), (0, 1), (0, 1), (2, 0)]))
        self.assert_same([rows_of(passage) for passage in passages(plan, "c")], [
            ("a", "b", 0, 5, ((0, 1, 1), (0, 2, 2), (2, 4, 3))), ("b", "c", 5, 12, ((3, 6, 1), (3, 7, 1), (3, 8, 2), (3, 9, 2), (1, 11, 3)))])

    def test_crossings_within_an_end_are_none(self):
        plan = Plan(chain(1, 1, 2, 2, 1, 1), two_ends(), Budgets([(0, 1)]))
        self.assert_same([rows_of(passage) for passage in passages(plan, "f")], [
            ("b", "c", 0, 1, ()), ("d", "e", 1, 3, ((1, 2, 3),))])
        self.assert_same(passages(plan, "b"), ())

    def test_results_are_of_their_classes(self):
        plan = Plan(ORDER, two_ends(), Budgets([(0, 1)]))
        self.assertEqual(passages(plan, "b"), (
            Passage(Crossing("a", "b", (0,), (), (0,)), 0, (HeldTurn(0, 1, 3),), 2),))

    def test_unknown(self):
        plan = Plan(ORDER, two_ends(), Budgets([(0, 1)]))
        for name in ("x", None, 1, ["a"]):
            self.assert_raises(BadOrder("unknown", name), passages, plan, name)

    def test_against_their_words(self):
        for plan in chance_plans(141, 150, 8):
            for name in plan.order.names:
                found = passages(plan, name)
                self.assert_same([rows_of(passage) for passage in found], self.walked(plan, name))
                steps = [step for step in crossings(plan, earliest(plan, name).path) if step.ways]
                self.assertEqual([passage.crossing for passage in found], steps)
                self.assertEqual(found[-1].beat if found else 0, earliest(plan, name).beat)
                self.assertEqual(not found, earliest(plan, name).beat == 0)

    def walked(self, plan, name):
        """Beat by beat."""
        rows, beat = [], 0
        for step in crossings(plan, earliest(plan, name).path):
            start, held, seen = beat, [], []
            for number in step.ways:
                way = plan.net.ways[number]
                e, f = plan.budgets.pairs[way.lot]
                kinds = [1] * e * (way.lot in step.sure) + ([2] * e + [3] * f) * (way.lot in step.last)
                kinds *= way.lot not in seen
                seen.append(way.lot)
                beat += 1
                while True:
                    if beat % plan.net.period == way.phase:
                        if not kinds:
                            break
                        held.append((number, beat, kinds.pop(0)))
                    beat += 1
                beat += way.delay
            if step.ways:
                rows.append((step.elder, step.name, start, beat, tuple(held)))
        return rows

    def test_long_times(self):
        chance = random.Random(142)
        for _ in range(5):
            ends = [chance.randint(1, 5) for _ in range(12)]
            plan = Plan(chain(*ends, kind="action"), line(5, 6, 6), Budgets([(8, 0)]))
            found = passages(plan, "l")
            self.assertEqual(found[-1].beat, earliest(plan, "l").beat)

    def test_an_end_alone(self):
        self.assert_same(passages(Plan(chain(1, 1), Net(1, 1, ()), Budgets(())), "b"), ())
        net = Net(2, 1, (Way(2, 1, 0, 0, 0), Way(1, 2, 0, 0, 1)))
        plan = Plan(chain(1, 2), net, Budgets([(8, 0), (0, 0)]))
        self.assert_same([rows_of(passage) for passage in passages(plan, "b")], [("a", "b", 0, 1, ())])


if __name__ == "__main__":
    unittest.main()
