"""[5.6] to [5.8]"""

import unittest

from askedtrue.ceilings import ceilings, ceilings_fault, times_fault
from askedtrue.errors import BadOrder
from askedtrue.lots import Budgets
from askedtrue.orders import Event, Order
from askedtrue.plans import Plan
from askedtrue.times import Timed, earliest
from tests.helpers import Case, chain, chance_plans, two_ends
from tests.walks import all_paths, path_facts

# a at 1, b at 2 needs a, c at 1 needs b and is an action, so that its sources are a and b.
ORDER = Order([Event("a", 1, "query"), Event("b", 2, "query", ("a",)), Event("c", 1, "action", ("b",))])
PLAN = Plan(ORDER, two_ends(2, (0, 0), (0, 1), (0, 1)), Budgets([(1, 0), (1, 1), (0, 2)]))
MARKED = (("a", (((), 0),)), ("b", (((0,), 2),)), ("c", (((), 0), ((0, 1), 5))))


def lists(thing):
    """The same with lists in the place of all tuples."""
    return [lists(part) for part in thing] if isinstance(thing, tuple) else thing


def spoiled(place, marks):
    """MARKED with other marks of one event."""
    return (*MARKED[:place], (MARKED[place][0], marks), *MARKED[place + 1:])


class Ceilings(Case):
    def test_by_hand(self):
        # b is heard at 2; c, sent at 3, waits a period of 2 for the one packet that could be corrupted.
        self.assert_same(ceilings(PLAN), MARKED)

    def test_none(self):
        self.assert_same(ceilings(PLAN.with_order(Order(()))), ())
        self.assert_same(ceilings(Plan(chain(1, 1), two_ends(), Budgets([(1, 1)]))), (("a", (((), 0),)), ("b", (((), 0),))))

    def judge(self, plan):
        wanted = []
        for name in plan.order.names:
            best = {}
            for path in all_paths(plan.order, name):
                _, _, lots, beat = path_facts(plan, path)
                best[lots] = max(beat, best.get(lots, 0))
            wanted.append((name, tuple(sorted(best.items()))))
        marked = ceilings(plan)
        self.assert_same(marked, tuple(wanted))
        self.assertIsNone(ceilings_fault(plan, marked))
        self.assertIsNone(ceilings_fault(plan, lists(marked)))
        for name in plan.order.names:
            self.assertIsNone(times_fault(plan, name, earliest(plan, name), marked))

    def test_against_a_walk(self):
        for plan in chance_plans(17, 150):
            self.judge(plan)

    def test_against_a_walk_at_the_greatest_size(self):
        for plan in chance_plans(18, 4, 12, needs=3):
            self.judge(plan)


class CeilingsFault(Case):
    def fault(self, marked):
        return ceilings_fault(PLAN, marked)

    def test_right(self):
        self.assertIsNone(self.fault(MARKED))
        self.assertIsNone(self.fault(lists(MARKED)))
        self.assertIsNone(ceilings_fault(PLAN.with_order(Order(())), ()))
        self.assertIsNone(ceilings_fault(PLAN.with_order(Order(())), []))

    def test_higher_marks_are_right(self):
        self.assertIsNone(self.fault(spoiled(2, (((0, 1, 2), 100),))))
        self.assertIsNone(self.fault(spoiled(0, (((), 0), ((), 0)))))
        self.assertIsNone(self.fault(spoiled(2, (((0, 1), 0), ((0, 1), 5), ((0, 1), 3), ((), 0), ((2,), 4)))))

    def test_shape_of_the_whole(self):
        a, b, c = MARKED
        for marked in (None, 0, "abc", {}, (), (a, b), (a, b, c, c), (b, a, c), (a, b, ("x", c[1])), (a, b, ("b", c[1])),
                       (a, b, None), (a, b, "c"), (a, b, ()), (a, b, ("c",)), (a, b, (*c, ())), (a, b, (["c"], c[1])),
                       (a, b, (None, c[1])), iter(MARKED)):
            self.assert_same(self.fault(marked), ("shape", None))
        self.assert_same(ceilings_fault(PLAN.with_order(Order(())), None), ("shape", None))
        self.assert_same(ceilings_fault(PLAN.with_order(Order(())), (a,)), ("shape", None))

    def test_shape_of_marks(self):
        for marks in (None, 5, "", {}, (), []):
            for place in range(3):
                self.assert_same(self.fault(spoiled(place, marks)), ("shape", None))

    def test_shape_of_a_mark(self):
        right = ((0, 1, 2), 99)
        for mark in (None, 5, "", (), ((0,),), ((0,), 5, 5), (None, 5), (0, 5), ("0", 5), ({0: 0}, 5), ((1, 0), 5), ((0, 0), 5),
                     ((0, 2, 1), 5), ((3,), 5), ((-1,), 5), ((True,), 5), ((False, 1), 5), ((None,), 5), (("0",), 5),
                     (((0,),), 5), ((0,), -1), ((0,), None), ((0,), True), ((0,), False), ((0,), "5"), ((0,), 5.0), ((0,), (5,))):
            self.assert_same(self.fault(spoiled(2, (right, mark))), ("shape", None))
            self.assert_same(self.fault(spoiled(0, [mark, right])), ("shape", None))

    def test_shape_comes_ahead_of_step(self):
        self.assert_same(self.fault((("a", (((), 9),)), MARKED[1], ("c", ()))), ("shape", None))

    def test_step(self):
        for marks in ((((0,), 1),), (((), 2),), (((1,), 99),), (((), 99), ((0,), 0))):
            self.assert_same(self.fault(spoiled(1, marks)), ("step", "b"))
        for marks in ((((), 0), ((0, 1), 4)), (((), 0),), (((0,), 99), ((1,), 99)), (((), 99),), (((0, 1), 4), ((0, 2), 9))):
            self.assert_same(self.fault(spoiled(2, marks)), ("step", "c"))

    def test_step_of_a_loose_forebear_within_one_end(self):
        # c waits for a, too: a mark with the lots of both does, one that has not even a's beat does not.
        self.assertIsNone(self.fault(spoiled(2, (((0, 1), 5),))))
        high = (("a", (((2,), 0), ((), 0))), ("b", (((0, 2), 2),)), ("c", (((0, 1, 2), 5),)))
        self.assertIsNone(self.fault(high))
        self.assert_same(self.fault((high[0], high[1], ("c", (((0, 1), 5), ((2,), 5))))), ("step", "c"))

    def test_each_mark_of_a_source_is_asked_for(self):
        self.assert_same(self.fault(spoiled(0, (((), 0), ((1,), 0)))), ("step", "b"))
        self.assert_same(self.fault(spoiled(0, (((), 2),))), ("step", "b"))

    def test_first_event(self):
        self.assert_same(self.fault((("a", (((), 50),)), MARKED[1], ("c", (((), 0),)))), ("step", "b"))

    def test_one_mark_is_to_have_both_lots_and_beat(self):
        self.assert_same(self.fault(spoiled(2, (((), 0), ((0, 1), 4), ((0,), 5), ((1,), 5)))), ("step", "c"))

    def test_nothing_is_changed(self):
        marked = lists(MARKED)
        self.fault(marked)
        times_fault(PLAN, "c", earliest(PLAN, "c"), marked)
        self.assertEqual(marked, lists(MARKED))

    def test_spoiled_in_one_place(self):
        # Without a mark, or with a lower one, some step of an event or of one behind it is not covered.
        for plan in chance_plans(19, 60):
            marked = ceilings(plan)
            for place, (name, marks) in enumerate(marked):
                for at, (lots, beat) in enumerate(marks):
                    if beat == 0:
                        continue
                    lower = (*marked[:place], (name, (*marks[:at], (lots, beat - 1), *marks[at + 1:])), *marked[place + 1:])
                    wanted = None
                    if not any(set(lots) < set(other) and beat <= height for other, height in marks):
                        wanted = ("step", name)
                    self.assert_same(ceilings_fault(plan, lower), wanted)


class TimesFault(Case):
    TIMED = earliest(PLAN, "c")

    def test_by_hand(self):
        self.assertEqual(self.TIMED, Timed(11, ("a", "b", "c"), 3, 8))

    def test_right(self):
        self.assertIsNone(times_fault(PLAN, "c", self.TIMED, MARKED))
        self.assertIsNone(times_fault(PLAN, "c", self.TIMED, lists(MARKED)))
        self.assertIsNone(times_fault(PLAN, "a", Timed(0, ("a",), 0, 0), MARKED))

    def test_path(self):
        for path in ((), None, 0, "abc", ("a",), ("a", "b"), ("b", "c"), ("a", "b", "x"), ("c",), ("a", "b", "c", "c"), (["a"],)):
            self.assertEqual(times_fault(PLAN, "c", Timed(11, path, 3, 8), None), "path")
        self.assertEqual(times_fault(PLAN, "b", self.TIMED, MARKED), "path")

    def test_sum(self):
        for timed in (Timed(10, ("a", "b", "c"), 3, 8), Timed(11, ("a", "b", "c"), 4, 8), Timed(11, ("a", "b", "c"), 3, 7),
                      Timed(12, ("a", "b", "c"), 4, 8), Timed(11, ("a", "c"), 3, 8), Timed(11, ["a", "b", "c"], 3, 8)):
            self.assertEqual(times_fault(PLAN, "c", timed, None), "sum")

    def test_ceilings(self):
        for marked in (None, (), spoiled(2, ()), spoiled(2, (((), 0),)), spoiled(1, (((0,), 1),))):
            self.assertEqual(times_fault(PLAN, "c", self.TIMED, marked), "ceilings")

    def test_above(self):
        self.assertEqual(times_fault(PLAN, "c", Timed(0, ("a", "c"), 0, 0), MARKED), "above")
        self.assertEqual(times_fault(PLAN, "c", self.TIMED, spoiled(2, (((0, 1), 6),))), "above")
        self.assertEqual(times_fault(PLAN, "c", self.TIMED, spoiled(2, (((0, 1), 5), ((), 12)))), "above")
        self.assertIsNone(times_fault(PLAN, "c", self.TIMED, spoiled(2, (((0, 1), 5), ((), 11)))))
        # Two lots of 1 and 2 bad packets, two beats each, and one of 2 that no way has.
        self.assertEqual(times_fault(PLAN, "c", self.TIMED, spoiled(2, (((0, 1), 5), ((1, 2), 4)))), "above")
        self.assertIsNone(times_fault(PLAN, "c", self.TIMED, spoiled(2, (((0, 1), 5), ((1, 2), 3)))))

    def test_marks_of_other_events_may_be_high(self):
        high = (("a", (((), 0),)), ("b", (((0,), 2), ((1,), 0))), ("c", (((), 0), ((0, 1), 5))))
        self.assertIsNone(times_fault(PLAN, "c", self.TIMED, high))
        self.assertEqual(times_fault(PLAN, "b", earliest(PLAN, "b"), high), None)
        self.assertEqual(times_fault(PLAN, "b", earliest(PLAN, "b"), spoiled(1, (((0,), 2), ((2,), 1)))), "ceilings")

    def test_unknown(self):
        for name in ("x", None, 1, ["a"]):
            self.assert_raises(BadOrder("unknown", name), times_fault, PLAN, name, self.TIMED, None)

    def test_another_path_than_the_greatest(self):
        for plan in chance_plans(20, 60):
            marked = ceilings(plan)
            for name in plan.order.names:
                best = earliest(plan, name)
                for path in all_paths(plan.order, name):
                    clean, held, _, _ = path_facts(plan, path)
                    word = times_fault(plan, name, Timed(clean + held, path, clean, held), marked)
                    self.assertEqual(word, "above" if clean + held < best.beat else None)


if __name__ == "__main__":
    unittest.main()
