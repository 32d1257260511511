"""[15.10]"""

import random

from askedtrue.cutfoes import cut_foe
from askedtrue.errors import BadFoe, BadOrder, BadProgram
from askedtrue.flooding import flooder
from askedtrue.foes import Broken
from askedtrue.orders import Event, Order
from askedtrue.ringplans import RingPlan, ring_time
from askedtrue.runner import run
from askedtrue.scripts import spent
from askedtrue.worlds import true_beat, true_run
from tests.helpers import Case, chain, two_ends
from tests.programs import follower, guesser, silent
from tests.rings import chance_ring_plan


def newest(plan):
    """Sends its answers and the last packet that it heard, and asks with the numbers in it."""
    def numbers(thing):
        return [thing] if isinstance(thing, int) else [one for part in thing for one in numbers(part)]

    def program(memory, word):
        if word[0] == "begin":
            return ((word[1], (), (), ()), None)
        end, last, own, asked = memory
        if word[0] == "tell":
            return (memory, (last, own)[-2:])
        if word[0] == "heard":
            heard = tuple(sorted(set(numbers(word[3] or ())))[-8:])
            return ((end, heard or last, own, asked), None)
        if word[0] == "answer":
            own = (*own, word[3])[-4:]
        known = sorted({*last, *own, 0})
        asks = [(name, (number,) * len(plan.order.event(name).needs)) for name in plan.order.of_end(end) for number in known]
        asks = [ask for ask in asks if ask not in asked][:1]
        return ((end, last, own, (*asked, *asks)), asks[0] if asks else None)
    return program


KINDS = (flooder, silent, guesser, follower, newest)


class CutFoes(Case):
    def check(self, plan, name, program):
        told = cut_foe(plan, name, program)
        self.assertIs(type(told), Broken)
        self.assertEqual((told.word, told.name, told.beat), ("late", name, ring_time(plan, name).beat - 1))
        self.assertIs(type(told.script), tuple)
        self.assertTrue(all(bad[0] == "lost" for bad in told.script))
        self.assertLessEqual(len(told.script), plan.bad)
        spent(plan.net, told.script)
        asked = run(plan.net, plan.order, told.world, program, told.script, told.beat).asks
        self.assertIsNone(true_beat(plan.order, told.world, asked, name))
        return told

    def test_programs_of_several_kinds(self):
        chance = random.Random(203)
        checked = 0
        for _ in range(120):
            plan = chance_ring_plan(chance, 5, 4)
            for name in plan.order.names:
                for kind in KINDS:
                    if ring_time(plan, name).beat == 0:
                        self.assert_raises(BadFoe("zero"), cut_foe, plan, name, kind(plan))
                    else:
                        self.check(plan, name, kind(plan))
                        checked += 1
        self.assertGreater(checked, 300)

    def test_the_flooder_asks_at_the_ring_time_itself(self):
        chance = random.Random(204)
        for _ in range(60):
            plan = chance_ring_plan(chance, 5, 4)
            for name in plan.order.names:
                beat = ring_time(plan, name).beat
                if beat:
                    told = self.check(plan, name, flooder(plan))
                    asks = run(plan.net, plan.order, told.world, flooder(plan), told.script, beat).asks
                    self.assert_same(true_beat(plan.order, told.world, asks, name), beat)

    def test_no_bad_packet(self):
        plan = RingPlan(chain(1, 2), two_ends(2, (3, 0)), 0)
        told = self.check(plan, "b", guesser(plan))
        self.assert_same((told.script, told.beat), ((), 4))
        self.assertGreater(true_run(plan.order, told.world)[1][1][0], 5)

    def test_within_one_end(self):
        plan = RingPlan(chain(1, 2, 2, 2), two_ends(), 1)
        for kind in KINDS:
            self.check(plan, "d", kind(plan))

    def test_actions(self):
        order = Order([Event("a", 1, "action"), Event("b", 2, "action", ("a",)), Event("c", 1, "query", ("b", "a"))])
        plan = RingPlan(order, two_ends(), 2, False)
        for name in ("b", "c"):
            for kind in KINDS:
                told = self.check(plan, name, kind(plan))
                self.assertLessEqual(len(told.script), 2)

    def test_wrong(self):
        plan = RingPlan(chain(1, 1, 2), two_ends(), 2)
        for name in ("z", None, 0):
            self.assert_raises(BadOrder("unknown", name), cut_foe, plan, name, None)
        self.assert_raises(BadFoe("zero"), cut_foe, plan, "b", None)

        def odd(memory, word):
            return (None, None)
        self.assert_raises(BadProgram(1, 1), cut_foe, plan, "c", odd)

        def broken(memory, word):
            raise KeyError("mine")
        with self.assertRaises(KeyError):
            cut_foe(plan, "c", broken)

    def test_greatest_time(self):
        plan = RingPlan(chain(1, 2, 1, 2, 1), two_ends(6, (6, 6)), 6)
        self.assertEqual(ring_time(plan, "e").beat, 84)
        plan = RingPlan(chain(1, 2, 1, 2, 1), two_ends(6, (6, 6)), 5)
        for kind in KINDS:
            self.check(plan, "e", kind(plan))
