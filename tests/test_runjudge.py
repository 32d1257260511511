"""[9.4], [9.5]"""

import random
import unittest

from askedtrue.errors import BadScript
from askedtrue.lots import Budgets
from askedtrue.nets import Net, Way
from askedtrue.orders import Event, Order
from askedtrue.plans import Plan
from askedtrue.runjudge import Beyond, Right, Wrong, judge_run, run_fault
from askedtrue.runner import Run, run
from askedtrue.same import is_same
from askedtrue.tellers import teller
from askedtrue.worlds import World
from tests.chances import chance_script, chance_world
from tests.helpers import Case, chance_plans, two_ends
from tests.programs import KINDS, lister

ORDER = Order([Event("a", 1, "query"), Event("b", 2, "query", ("a",)), Event("c", 1, "action", ("b",))])
NET = Net(2, 2, (Way(1, 2, 1, 1, 0), Way(2, 1, 0, 0, 1), Way(1, 2, 1, 0, 0)))
WORLD = World([("a", (), 5)], 1, 1)
SCRIPT = (("lost", 0, 1), ("corrupted", 1, 2, "odd"))
SENT = ((1, 0, "p"), (1, 2, "q"), (2, 1, "r"), (3, 0, 1), (3, 2, "t"))
HEARD = ((1, 2, "q"), (2, 0, None), (2, 1, "odd"), (3, 2, "t"))
ASKS = ((0, 1, "a", (), 5), (1, 1, "a", (), 5), (1, 2, "b", (5,), 6), (1, 2, "b", (4,), 5), (3, 1, "c", (0,), 1))
PLAN = Plan(ORDER, two_ends(), Budgets([(1, 1)]))


def fault(last=3, sent=SENT, heard=HEARD, asks=ASKS, script=SCRIPT, world=WORLD):
    return run_fault(NET, ORDER, world, script, Run(last, sent, heard, asks))


def spoiled(rows, at, *others):
    """The rows with others in the place of one."""
    return (*rows[:at], *others, *rows[at + 1:])


class RunFault(Case):
    def test_right(self):
        self.assertIsNone(fault())
        self.assertIsNone(fault(script=list(SCRIPT)))
        self.assertIsNone(fault(sent=list(SENT), heard=list(HEARD), asks=list(ASKS)))
        self.assertIsNone(run_fault(NET, ORDER, WORLD, (), Run(0, (), (), ())))
        self.assertIsNone(run_fault(Net(1, 1, ()), Order(()), World(), (), Run(80, (), (), ())))

    def test_what_run_returns(self):
        chance = random.Random(121)
        for at, plan in enumerate(chance_plans(122, 80, 6)):
            world, script = chance_world(chance), chance_script(chance, plan, 15)
            last = chance.randint(0, 14)
            told = run(plan.net, plan.order, world, KINDS[at % len(KINDS)](plan), script, last)
            self.assertIsNone(run_fault(plan.net, plan.order, world, script, told))

    def test_last(self):
        for last in (None, -1, True, False, "3", 3.0, (3,)):
            self.assertEqual(fault(last=last), "last")
            self.assertEqual(fault(last=last, sent=None, heard=None, asks=None), "last")

    def test_sent(self):
        for sent in (None, 5, "", SENT[1:], SENT[:-1], (), SENT + ((3, 1, "x"),), SENT + SENT[-1:], tuple(reversed(SENT)),
                     (SENT[1], SENT[0], *SENT[2:]), SENT + ((5, 0, "x"),)):
            self.assertEqual(fault(sent=sent), "sent", sent)
            self.assertEqual(fault(sent=sent, heard=None, asks=None), "sent")
        for thing in (None, (), (1, 0), (1, 0, "p", "p"), [1, 0, "p"], (1, 0, None), (True, 0, "p"), (1, False, "p"), ("1", 0, "p"),
                      (1, 1, "p"), (2, 0, "p"), (1, -1, "p"), (1.0, 0, "p"), "1 0"):
            self.assertEqual(fault(sent=spoiled(SENT, 0, thing)), "sent", thing)

    def test_last_and_sent_do_not_go_together(self):
        for last in (0, 1, 2, 4, 5, 81, 10 ** 50):
            self.assertEqual(fault(last=last), "sent")

    def test_heard(self):
        for heard in (None, 5, "", (), HEARD[1:], HEARD[:-1], HEARD + ((4, 0, 1),), tuple(reversed(HEARD)), HEARD + HEARD[-1:],
                      (*HEARD[:3], (3, 0, 1), HEARD[3])):
            self.assertEqual(fault(heard=heard), "heard", heard)
            self.assertEqual(fault(heard=heard, asks=None), "heard")
        for thing in ((1, 2, "x"), (1, 2, None), (1, 0, "q"), (2, 2, "q"), None, (1, 2), (1, 2, "q", 0), (True, 2, "q"),
                      (1, 2, ("q",))):
            self.assertEqual(fault(heard=spoiled(HEARD, 0, thing)), "heard", thing)

    def test_heard_by_the_script(self):
        self.assertEqual(fault(script=()), "heard")
        self.assertEqual(fault(script=SCRIPT[1:]), "heard")
        self.assertEqual(fault(script=(*SCRIPT, ("lost", 2, 3))), "heard")
        # What it spoils behind the last beat is heard by nobody.
        self.assertIsNone(fault(script=(*SCRIPT, ("lost", 0, 3), ("lost", 1, 4))))

    def test_true_is_not_1(self):
        sent = spoiled(SENT, 4, (3, 2, (1, ())))
        self.assertIsNone(fault(sent=sent, heard=spoiled(HEARD, 3, (3, 2, (1, ())))))
        self.assertEqual(fault(sent=sent, heard=spoiled(HEARD, 3, (3, 2, (True, ())))), "heard")
        self.assertEqual(fault(sent=sent, heard=spoiled(HEARD, 3, (3, 2, [1, ()]))), "heard")

    def test_a_packet_of_any_kind(self):
        for packet in (False, 0, float("nan"), {"a": 1}, [], object(), ""):
            self.assertIsNone(fault(sent=spoiled(SENT, 4, (3, 2, packet)), heard=spoiled(HEARD, 3, (3, 2, packet))))

    def test_asks(self):
        for thing in (None, (), 5, (0, 1, "a", ()), (0, 1, "a", (), 5, 5), [0, 1, "a", (), 5], (-1, 1, "a", (), 5),
                      (False, 1, "a", (), 5), (None, 1, "a", (), 5), ("0", 1, "a", (), 5), (0, 0, "a", (), 5), (0, 3, "a", (), 5),
                      (0, True, "a", (), 5), (0, 2, "a", (), 5), (0, 1, "x", (), 5), (0, 1, None, (), 5), (0, 1, "a", [], 5),
                      (0, 1, "a", (1,), 5), (0, 1, "b", (5,), 6), (0, 1, "a", None, 5), (0, 1, "a", (), 6), (0, 1, "a", (), None),
                      (0, 1, "a", (), "5"), (0, 1, "a", (), 5.0)):
            self.assertEqual(fault(asks=spoiled(ASKS, 0, thing)), "asks", thing)
        for thing in ((1, 2, "b", (True,), 2), (1, 2, "b", (), 1), (1, 2, "b", (5, 5), 6), (1, 2, "b", (5,), 5)):
            self.assertEqual(fault(asks=spoiled(ASKS, 2, thing)), "asks", thing)
        self.assertEqual(fault(asks=(*ASKS, (4, 1, "a", (), 5))), "asks")
        self.assertEqual(fault(asks=(*ASKS[:4], (3, 1, "c", (0,), True))), "asks")
        for asks in (None, 5, "", {}):
            self.assertEqual(fault(asks=asks), "asks")

    def test_asks_out_of_order(self):
        self.assertEqual(fault(asks=(ASKS[1], ASKS[0])), "asks")
        self.assertEqual(fault(asks=(ASKS[2], ASKS[1])), "asks")
        self.assertIsNone(fault(asks=(ASKS[3], ASKS[2])))
        self.assertIsNone(fault(asks=()))
        self.assertIsNone(fault(asks=(ASKS[0],) * 2000))

    def test_the_2001st_ask(self):
        self.assertIsNone(fault(asks=(ASKS[0],) * 2000 + (ASKS[1],) * 2000 + (ASKS[2],) * 2000))
        self.assertEqual(fault(asks=(ASKS[0],) * 2001), "asks")
        self.assertEqual(fault(asks=ASKS[:1] + (ASKS[1],) * 5 + (ASKS[2],) * 2001), "asks")

    def test_events_at_ends_that_the_net_does_not_have(self):
        order = Order([Event("z", 5, "query")])
        told = Run(0, (), (), ((0, 5, "z", (), 0),))
        self.assertEqual(run_fault(NET, order, World(), (), told), "asks")


class Same(Case):
    def test_is_same(self):
        things = [0, 1, False, True, None, "", "1", (), (1,), (True,), [1], [True], (1, (0,)), (1, (False,)), (1, [0]), {"a": 1}, object()]
        for at, one in enumerate(things):
            for place, other in enumerate(things):
                self.assertIs(is_same(one, other), at == place, (one, other))
        self.assertIs(is_same((1, ("a", None)), (1, ("a", None))), True)
        self.assertIs(is_same((1, 2), (1, 2, 3)), False)
        odd = float("nan")
        self.assertIs(is_same((odd,), (odd,)), True)


class JudgeRun(Case):
    def judged(self, asks, script=(), world=World([("a", (), 5)], 1, 1)):
        return judge_run(PLAN, world, script, Run(9, (), (), asks))

    def test_results(self):
        self.assert_equals(lambda: Right((1, None)), [Right((1, 2)), Right(())])
        self.assert_equals(lambda: Wrong("c", 3), [Wrong("d", 3), Wrong("c", 4)])
        self.assert_equals(lambda: Beyond(2), [Beyond(1), Right(2)])
        self.assertEqual((Right(beats=1), Wrong(beat=2, name=1), Beyond(lot=1)), (Right(1), Wrong(1, 2), Beyond(1)))

    def test_right(self):
        told = self.judged(((0, 1, "a", (), 5), (2, 2, "b", (4,), 5), (3, 2, "b", (5,), 6), (4, 2, "b", (5,), 6), (7, 1, "c", (6,), 7)))
        self.assertEqual(told, Right((0, 3, 7)))
        self.assert_same(told.beats, (0, 3, 7))
        self.assert_same(self.judged(()).beats, (None, None, None))
        self.assert_same(self.judged(((2, 2, "b", (4,), 5),)).beats, (None, None, None))
        self.assert_same(judge_run(PLAN.with_order(Order(())), World(), (), Run(0, (), (), ())).beats, ())

    def test_wrong(self):
        for asks, right in ((((3, 1, "c", (5,), 6),), Wrong("c", 3)),
                            (((3, 1, "c", (6,), 7), (8, 1, "c", (6,), 7)), Wrong("c", 8)),
                            (((3, 1, "c", (6,), 7), (5, 1, "c", (9,), 10), (8, 1, "c", (6,), 7)), Wrong("c", 5))):
            told = self.judged(asks)
            self.assertEqual(told, right)
            self.assert_same((told.name, told.beat), (right.name, right.beat))

    def test_beyond(self):
        wrong = ((3, 1, "c", (5,), 6),)
        for script in ((("lost", 0, 1), ("lost", 1, 1)), (("corrupted", 0, 1, 5), ("lost", 0, 2), ("corrupted", 0, 3, 5))):
            self.assertEqual(self.judged(wrong, script), Beyond(0))
        plan = Plan(ORDER, two_ends(lots=(0, 2)), Budgets([(1, 1), (0, 0), (0, 1)]))
        self.assertEqual(judge_run(plan, World(), (("corrupted", 1, 1, 5),), Run(9, (), (), ())), Beyond(2))
        self.assertEqual(self.judged(wrong, (("corrupted", 0, 1, 5), ("lost", 1, 2))), Wrong("c", 3))

    def test_refused(self):
        wrong = ((3, 1, "c", (5,), 6),)
        for script, told in ((None, ("script", None)), ([("lost", 0, 1), None], ("packet", 1)), ([("lost", 2, 1)], ("way", 0)),
                             ([("lost", 0, 0)], ("turn", 0)), ([("lost", 1, 1), ("lost", 0, 1)], ("order", 1))):
            self.assert_raises(BadScript(*told), self.judged, wrong, script)
        self.assert_raises(BadScript("order", 3), self.judged, wrong, [("lost", 0, 1), ("lost", 0, 2), ("lost", 0, 3), ("lost", 0, 2)])

    def test_runs(self):
        chance = random.Random(123)
        for plan in chance_plans(124, 20, 5):
            world, script = chance_world(chance), chance_script(chance, plan, 10)
            self.assertIsInstance(judge_run(plan, world, script, run(plan.net, plan.order, world, teller(plan), script, 10)), Right)
        program = lister(lambda end, beat: [("c", (0,))] * (end == 1 and beat == 4))
        told = run(PLAN.net, ORDER, WORLD, program, (), 6)
        self.assertEqual(judge_run(PLAN, WORLD, (), told), Wrong("c", 4))


if __name__ == "__main__":
    unittest.main()
