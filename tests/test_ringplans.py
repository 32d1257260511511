"""[15.6] to [15.8], and [15.11]"""

import random

from askedtrue.errors import BadOrder, BadRing
from askedtrue.lots import Budgets
from askedtrue.nets import Net, Way
from askedtrue.orders import Event, Order
from askedtrue.plans import Plan
from askedtrue.ringplans import RingPlan, RingTime, ring_time, ring_time_fault
from askedtrue.times import earliest
from tests.helpers import Case, chain, chance_tree, two_ends
from tests.rings import all_chains, all_dealings, chance_queries, chance_ring, chance_ring_plan, dealt_time

RING = Net(3, 1, [Way(1, 2, 0, 0, 0), Way(2, 3, 0, 0, 0), Way(3, 1, 0, 0, 0)])
ONE = Net(1, 1, ())
ACTION = Order([Event("a", 1, "query"), Event("b", 2, "action", ("a",))])


class RingPlans(Case):
    def test_attributes(self):
        order = chain(1, 3)
        plan = RingPlan(order, RING, 4)
        self.assertEqual((plan.order, plan.net), (order, RING))
        self.assert_same((plan.bad, plan.corrupted), (4, True))
        self.assert_same(RingPlan(ACTION, RING, 0, False).corrupted, False)

    def test_equal(self):
        self.assert_equals(lambda: RingPlan(chain(1, 3), RING, 2), [
            RingPlan(chain(1, 2), RING, 2), RingPlan(chain(1, 3), Net(3, 2, RING.ways), 2), RingPlan(chain(1, 3), RING, 1),
            RingPlan(chain(1, 3), RING, 2, False)])

    def test_wrong(self):
        apart = Net(3, 1, RING.ways[:2])
        far = Order([Event("a", 4, "action")])
        for bad in (-1, 9, True, False, None, "1"):
            self.assert_raises(BadRing("bad"), RingPlan, far, apart, bad, None)
        for corrupted in (None, 0, 1, "True", ()):
            self.assert_raises(BadRing("corrupted"), RingPlan, far, apart, 0, corrupted)
        self.assert_raises(BadRing("end"), RingPlan, far, apart, 0)
        self.assert_raises(BadRing("apart"), RingPlan, ACTION, apart, 0)
        self.assert_raises(BadRing("apart"), RingPlan, ACTION, Net(2, 1, ()), 8, False)
        # From one end alone, the first or the last one, no ways lead to the others.
        for lone, one, other in ((1, 2, 3), (3, 1, 2)):
            pairs = ((one, other), (other, one), (one, lone))
            net = Net(3, 1, [Way(source, goal, 0, 0, 0) for source, goal in pairs])
            self.assert_raises(BadRing("apart"), RingPlan, ACTION, net, 8, False)
        self.assert_raises(BadRing("action"), RingPlan, ACTION, RING, 0)
        self.assert_raises(BadRing("action"), RingPlan, Order([Event("a", 1, "action")]), ONE, 0, True)

    def test_right(self):
        self.assert_same(RingPlan(Order(()), ONE, 8).bad, 8)
        self.assert_same(RingPlan(ACTION, RING, 8, False).bad, 8)
        self.assert_same(RingPlan(ACTION, two_ends(), 0, False).bad, 0)


class Times(Case):
    def test_worked_by_hand(self):
        plan = RingPlan(chain(1, 2, 1), RING, 1)
        self.assertEqual(ring_time(plan, "a"), RingTime(0, ("a",), ()))
        self.assertEqual(ring_time(plan, "b"), RingTime(2, ("a", "b"), (1,)))
        self.assert_same(ring_time(plan, "c").beat, 4)
        # Two ways side by side let two flows go at once.
        double = Net(2, 2, [Way(1, 2, 0, 0, 0), Way(1, 2, 1, 1, 0), Way(2, 1, 0, 0, 0)])
        for bad, beat in enumerate((2, 2, 4, 4)):
            self.assert_same(ring_time(RingPlan(chain(1, 2), double, bad), "b").beat, beat)

    def test_against_all_chains_with_all_dealings(self):
        chance = random.Random(191)
        seen = set()
        for _ in range(150):
            plan = chance_ring_plan(chance)
            for name in plan.order.names:
                told = ring_time(plan, name)
                self.assertIs(type(told), RingTime)
                self.assertEqual((type(told.chain), type(told.dealt)), (tuple, tuple))
                chains = all_chains(plan.order, name)
                self.assertIn(told.chain, chains)
                self.assertIn(told.dealt, all_dealings(plan, told.chain))
                self.assert_same(told.beat, dealt_time(plan, told.chain, told.dealt))
                right = max(dealt_time(plan, one, dealt) for one in chains for dealt in all_dealings(plan, one))
                self.assert_same(told.beat, right)
                self.assertIsNone(ring_time_fault(plan, name, told))
                seen.add(len(told.chain))
        self.assertTrue({1, 2, 3, 4} <= seen)

    def test_greatest_sizes(self):
        chance = random.Random(192)
        for _ in range(4):
            net = chance_ring(chance, 5, 7, 6, 6)
            plan = RingPlan(chance_queries(chance, 12, net.ends), net, 8)
            for name in plan.order.names:
                self.assertIsNone(ring_time_fault(plan, name, ring_time(plan, name)))

    def test_unknown(self):
        plan = RingPlan(chain(1, 2), RING, 1)
        for name in ("z", None, 0, ["a"]):
            self.assert_raises(BadOrder("unknown", name), ring_time, plan, name)
            self.assert_raises(BadOrder("unknown", name), ring_time_fault, plan, name, RingTime(0, ("a",), ()))

    def test_result(self):
        self.assert_equals(lambda: RingTime(1, ("a",), ()), [
            RingTime(2, ("a",), ()), RingTime(1, ("b",), ()), RingTime(1, ("a",), (0,))])


class Fault(Case):
    def test_words(self):
        order = Order([Event("a", 1, "query"), Event("b", 2, "query", ("a",)), Event("c", 2, "query", ("b",)),
                       Event("d", 3, "query", ("c", "a")), Event("e", 1, "query", ("d",))])
        plan = RingPlan(order, RING, 2)
        right = ring_time(plan, "e")
        self.assertEqual(right.chain, ("a", "b", "c", "d", "e"))

        def word(beat, one, dealt):
            return ring_time_fault(plan, "e", RingTime(beat, one, dealt))
        self.assertIsNone(word(right.beat, right.chain, right.dealt))
        self.assertIsNone(word(right.beat, list(right.chain), list(right.dealt)))
        for one in (None, 5, (), "abcde", right.chain[1:], right.chain[:-1], ("a", "b", "d", "e"), ("a", "z", "d", "e"),
                    ("a", None, "e"), ("b", "c", "d", "e"), ("a", "b", "c", ["d"], "e")):
            self.assert_same(word(None, one, None), "chain")
        for dealt in (None, 5, (), right.dealt[1:], (*right.dealt, 0), (1, 1, 0, 0), (1, 0, 1, 1), (-1, 0, 1, 1), (3, 0, 0, 0),
                      (True, 0, 0, 0), (None, 0, 0, 0), "1001"):
            self.assert_same(word(None, right.chain, dealt), "dealt")
        for beat in (right.beat + 1, right.beat - 1, -1, None, True):
            self.assert_same(word(beat, right.chain, right.dealt), "beat")
        self.assert_same(word(dealt_time(plan, right.chain, (0, 0, 0, 0)), right.chain, (0, 0, 0, 0)), "greatest")
        short = ("a", "d", "e")
        self.assert_same(word(dealt_time(plan, short, (1, 0)), short, (1, 0)), "greatest")
        self.assertIsNone(word(dealt_time(plan, short, (1, 1)), short, (1, 1)))
        # 1 is not True where the beat is 1.
        near = RingPlan(chain(1, 2), RING, 0)
        self.assertIsNone(ring_time_fault(near, "b", RingTime(1, ("a", "b"), (0,))))
        self.assert_same(ring_time_fault(near, "b", RingTime(True, ("a", "b"), (0,))), "beat")

    def test_no_time_at_all(self):
        plan = RingPlan(chain(1, 1), RING, 2)
        self.assertIsNone(ring_time_fault(plan, "b", RingTime(0, ("a", "b"), (0,))))
        self.assert_same(ring_time_fault(plan, "b", RingTime(0, ("a", "b"), (1,))), "dealt")


class Facts(Case):
    """[15.11]"""

    def test_one_bad_packet_more(self):
        chance = random.Random(193)
        for _ in range(80):
            plan = chance_ring_plan(chance)
            more = RingPlan(plan.order, plan.net, plan.bad + 1, plan.corrupted)
            for name in plan.order.names:
                self.assertLessEqual(ring_time(plan, name).beat, ring_time(more, name).beat)

    def test_one_way_more(self):
        chance = random.Random(194)
        for _ in range(80):
            plan = chance_ring_plan(chance)
            net = plan.net
            if net.ends == 1:
                continue
            source, goal = chance.sample(range(1, net.ends + 1), 2)
            way = Way(source, goal, chance.randrange(net.period), chance.randint(0, 2), 0)
            more = RingPlan(plan.order, Net(net.ends, net.period, [*net.ways, way]), plan.bad, plan.corrupted)
            for name in plan.order.names:
                self.assertGreaterEqual(ring_time(plan, name).beat, ring_time(more, name).beat)

    def test_in_a_tree_it_is_the_earliest_time(self):
        chance = random.Random(195)
        for _ in range(120):
            ends = chance.randint(1, 5)
            net = chance_tree(chance, ends)
            net = net.with_lots([0] * len(net.ways))
            order = chance_queries(chance, chance.randint(1, 8), ends)
            corrupted, lost = chance.randint(0, 3), chance.randint(0, 3)
            plan = Plan(order, net, Budgets([(corrupted, lost)]))
            ring = RingPlan(order, net, corrupted + lost)
            for name in order.names:
                self.assert_same(ring_time(ring, name).beat, earliest(plan, name).beat)
