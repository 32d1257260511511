"""[16.1] to [16.6]"""

import random

from askedtrue.checks import Checked, Never, cheapest, with_checks
from askedtrue.desk import Desk, retell_story
from askedtrue.errors import (
    AskedError, BadChecks, BadDeed, BadFoe, BadLots, BadNet, BadOrder, BadPlan, BadScript, BadText, BadWorld, NoDeed)
from askedtrue.foes import Broken, Foe
from askedtrue.lots import Budgets
from askedtrue.nets import Net
from askedtrue.nettext import net_text
from askedtrue.orders import Event, Order
from askedtrue.ordertext import order_text
from askedtrue.plans import Plan
from askedtrue.runjudge import Right, Wrong, judge_run
from askedtrue.runner import run
from askedtrue.scripts import make_script, script_fault, spent
from askedtrue.stories import Story
from askedtrue.tellers import teller
from askedtrue.times import earliest
from askedtrue.worlds import World, true_beat, true_run
from tests.chances import is_small
from tests.deeds import chance_deed, shown
from tests.helpers import Case, chain, chance_plans, line, two_ends

ORDER = Order([Event("a", 1, "query"), Event("b", 2, "query", ("a",)), Event("c", 1, "action", ("b",))])
PLAN = Plan(ORDER, two_ends(), Budgets([(1, 1)]))
DEEDS = (("order", "query a 1"), ("net", net_text(two_ends(2))), ("lots", ((0, 0),)), ("trust", ((0, 0),)), ("world", 1, 2),
         ("answer", "a", (), 5), ("bad", ("lost", 0, 9)), ("deadline", "a", 3), ("checks", (1,)), ("foe", "c"), ("go on", 2),
         ("again",), ("back",))
STANDING = ("order", "net", "lots", "trust", "world", "checks", "foe")


def desk_with(*deeds, plan=PLAN):
    desk = Desk(plan)
    for deed in deeds:
        desk.take_deed(deed)
    return desk


def times_of(plan):
    return tuple((name, earliest(plan, name).beat) for name in plan.order.names)


class DeskCase(Case):
    def assert_refused(self, error, desk, deed):
        """The deed raises the error and leaves the desk as it was."""
        before = shown(desk)
        self.assert_raises(error, desk.take_deed, deed)
        self.assertEqual(shown(desk), before)

    def assert_changed(self, desk, before, **changes):
        """All attributes but these and the deeds are as they were."""
        for name, value in shown(desk).items():
            if name in changes:
                self.assert_equal_things(value, changes[name])
            elif name != "deeds":
                self.assertEqual(value, before[name], name)

    def assert_equal_things(self, one, other):
        self.assertEqual(one, other)
        self.assertIs(type(one), type(other))


class Begin(DeskCase):
    def test_attributes(self):
        desk = Desk(PLAN)
        self.assertEqual((desk.first, desk.plan, desk.trusted, desk.world), (PLAN, PLAN, PLAN.budgets, World()))
        self.assert_same((desk.script, desk.deadlines, desk.beats, desk.record, desk.deeds), ((), (), 0, None, ()))

    def test_equal(self):
        self.assert_equals(lambda: desk_with(("world", 1, 2), ("go on", 1)), [
            Desk(PLAN), desk_with(("world", 1, 2)), desk_with(("world", 1, 3), ("go on", 1)),
            desk_with(("world", 1, 2), ("go on", 1), plan=PLAN.with_budgets(Budgets([(0, 0)])))])
        self.assertEqual(desk_with(("deadline", "a", 5), ("back",)), Desk(PLAN))

    def test_times(self):
        self.assert_same(Desk(PLAN).times(), (("a", 0), ("b", 3), ("c", 5)))
        for plan in chance_plans(211, 40):
            self.assert_same(Desk(plan).times(), times_of(plan))

    def test_verdict_and_missed_ahead_of_all_beats(self):
        desk = desk_with(("deadline", "a", 0))
        self.assertIsNone(desk.verdict())
        self.assert_same(desk.missed(), ())


class WrongDeeds(DeskCase):
    def test_no_deed(self):
        for desk in (Desk(PLAN), desk_with(("go on", 3))):
            for deed in (None, 5, "back", "again", (), [], ("odd",), (None,), (["again"],), ("Again",), {"again": 1}, (1, 2),
                         (("again",),), (True,)):
                self.assert_refused(BadDeed("deed"), desk, deed)
            for deed in DEEDS:
                self.assert_refused(BadDeed("deed"), desk, (*deed, 1))
                if len(deed) > 1:
                    self.assert_refused(BadDeed("deed"), desk, deed[:-1])

    def test_running(self):
        desk = desk_with(("go on", 1))
        for word in STANDING:
            deed = [word] + [None] * (2 if word == "world" else 1)
            self.assert_refused(BadDeed("running"), desk, deed)
        for deed in (("answer", "a", (1,), 5), ("bad", ("lost", 0, 9)), ("deadline", "a", 3), ("go on", 2), ("again",), ("back",)):
            desk = desk_with(("go on", 1))
            desk.take_deed(deed)

    def test_order(self):
        desk = desk_with(("deadline", "a", 3))
        for text in (None, 5, ["query a 1"], True):
            self.assert_refused(BadText(0), desk, ("order", text))
        self.assert_refused(BadText(1), desk, ("order", "query a 1\nquery b"))
        self.assert_refused(BadOrder("twice", "a"), desk, ("order", "query a 1\nquery a 2"))
        self.assert_refused(BadPlan("end"), desk, ("order", "query a 3"))

    def test_net(self):
        desk = Desk(PLAN)
        for text in (None, 5, "", "net 2"):
            self.assert_refused(BadText(0), desk, ("net", text))
        self.assert_refused(BadText(1), desk, ("net", "net 2 1\nway 1 2 1 0 0"))
        self.assert_refused(BadPlan("tree"), desk, ("net", "net 2 1\nway 1 2 0 0 0"))
        self.assert_refused(BadPlan("end"), desk, ("net", "net 1 1"))
        self.assert_refused(BadPlan("lots"), desk, ("net", net_text(two_ends(lots=(0, 1)))))

    def test_lots_and_trust(self):
        for word in ("lots", "trust"):
            for desk in (Desk(PLAN), desk_with(("bad", ("lost", 0, 1)))):
                self.assert_refused(BadLots("pairs", None), desk, (word, None))
                self.assert_refused(BadLots("pair", 1), desk, (word, ((0, 1), (True, 0))))
                self.assert_refused(BadLots("many", None), desk, (word, [[5, 4]]))
                self.assert_refused(BadPlan("lots"), desk, (word, ()))

    def test_world_and_answer(self):
        desk = desk_with(("answer", "a", (), 4), ("go on", 1))
        self.assert_refused(BadDeed("asked"), desk, ("answer", "a", (), 9))
        self.assert_refused(BadDeed("asked"), desk, ("answer", "a", [], 4))
        for name, key, value in (("A", (), 5), (None, (), 5), ("a", 5, 5), ("a", (True,), 5), ("a", (), True), ("a", (1,) * 4, 5),
                                 ("a", (), None), (["a"], (), 5)):
            self.assert_refused(BadWorld("told"), desk, ("answer", name, key, value))
        desk = Desk(PLAN)
        for base in (True, None, "1", (1,)):
            self.assert_refused(BadWorld("base"), desk, ("world", base, None))
            self.assert_refused(BadWorld("factor"), desk, ("world", 1, base))

    def test_bad(self):
        desk = desk_with(("bad", ("lost", 0, 4)))
        for packet in (None, 5, ["lost", 0, 1], ("lost", 0), ("lost", True, 1), ("corrupted", 0, 1, None), ("lost", 0, -1)):
            self.assert_refused(BadScript("packet", 1), desk, ("bad", packet))
        self.assert_refused(BadScript("way", 1), desk, ("bad", ("lost", 2, 5)))
        self.assert_refused(BadScript("turn", 0), desk, ("bad", ("lost", 0, 0)))
        self.assert_refused(BadScript("order", 1), desk, ("bad", ("corrupted", 0, 4, 1)))
        self.assert_refused(BadScript("beyond", 0), desk, ("bad", ("lost", 1, 4)))
        desk.take_deed(("go on", 4))
        for beat in (1, 3):
            self.assert_refused(BadDeed("past"), desk, ("bad", ("lost", 1, beat)))
        self.assert_refused(BadScript("beyond", 0), desk, ("bad", ("lost", 1, 4)))
        desk.take_deed(("bad", ("corrupted", 1, 4, "odd")))
        self.assertEqual(desk.script, (("lost", 0, 4), ("corrupted", 1, 4, "odd")))

    def test_deadline(self):
        desk = Desk(PLAN)
        for name in ("z", None, 5, ["a"], True):
            self.assert_refused(BadOrder("unknown", name), desk, ("deadline", name, None))
        for beat in (-1, 401, True, False, None, "1"):
            self.assert_refused(BadDeed("beat"), desk, ("deadline", "a", beat))

    def test_checks_and_foe(self):
        desk = desk_with(("deadline", "c", 4))
        for prices in (None, (), (1, 1), (-1,), (True,), "1"):
            self.assert_refused(BadChecks("prices"), desk, ("checks", prices))
        for name in ("z", None, 0):
            self.assert_refused(BadOrder("unknown", name), desk, ("foe", name))
        self.assert_refused(BadFoe("zero"), desk, ("foe", "a"))
        self.assert_refused(BadOrder("unknown", "back"), desk, ("foe", "back"))

    def test_go_on(self):
        desk = Desk(PLAN)
        for many in (0, 21, -1, True, None, "1"):
            self.assert_refused(BadDeed("beats"), desk, ("go on", many))
        for many in (20, 20, 20, 20):
            desk.take_deed(("go on", many))
        self.assert_refused(BadDeed("beats"), desk, ("go on", 21))
        self.assert_refused(BadDeed("long"), desk, ("go on", 2))
        desk.take_deed(("go on", 1))
        self.assert_same(desk.beats, 81)
        self.assert_same(desk.record.last, 80)
        self.assert_refused(BadDeed("long"), desk, ("go on", 1))

    def test_again_and_back(self):
        desk = Desk(PLAN)
        self.assert_refused(BadDeed("standing"), desk, ("again",))
        self.assert_refused(NoDeed(), desk, ("back",))
        desk.take_deed(("world", 1, 1))
        desk.take_deed(("back",))
        self.assert_refused(NoDeed(), desk, ("back",))


class Deeds(DeskCase):
    def test_order(self):
        desk = desk_with(("bad", ("lost", 0, 2)), ("trust", [(0, 1)]), ("deadline", "a", 3))
        before = shown(desk)
        order = Order([Event("x", 2, "query"), Event("y", 1, "action", ("x",))])
        told = desk.take_deed(("order", order_text(order)))
        self.assert_changed(desk, before, plan=PLAN.with_order(order), deadlines=())
        self.assert_same(told, times_of(desk.plan))
        self.assert_same(desk.take_deed(["order", ""]), ())
        self.assertEqual(len(desk.plan.order), 0)

    def test_net(self):
        desk = desk_with(("bad", ("lost", 0, 2)), ("trust", [(0, 1)]), ("deadline", "a", 3))
        before = shown(desk)
        net = line(3, 2, 1)
        told = desk.take_deed(("net", net_text(net)))
        self.assert_changed(desk, before, plan=PLAN.with_net(net), script=(), trusted=PLAN.budgets)
        self.assert_same(told, times_of(desk.plan))

    def test_lots(self):
        desk = desk_with(("bad", ("lost", 0, 2)), ("trust", [(0, 1)]), ("deadline", "a", 3))
        before = shown(desk)
        told = desk.take_deed(("lots", [[0, 2], [1, 1]]))
        budgets = Budgets([(0, 2), (1, 1)])
        self.assert_changed(desk, before, plan=PLAN.with_budgets(budgets), script=(), trusted=budgets)
        self.assert_same(told, times_of(desk.plan))

    def test_trust(self):
        desk = desk_with(("bad", ("lost", 0, 2)), ("deadline", "a", 3))
        before = shown(desk)
        told = desk.take_deed(("trust", ((3, 3),)))
        self.assert_changed(desk, before, trusted=Budgets([(3, 3)]))
        self.assert_same(told, times_of(PLAN.with_budgets(Budgets([(3, 3)]))))
        self.assert_same(desk.times(), times_of(PLAN))

    def test_world_and_answer(self):
        desk = desk_with(("bad", ("lost", 0, 2)), ("answer", "b", [3], 8))
        before = shown(desk)
        world = World([("b", (3,), 8)], 2, 1)
        self.assert_same(desk.take_deed(("world", 2, 1)), true_run(ORDER, world))
        self.assert_changed(desk, before, world=world)
        before = shown(desk)
        told = desk.take_deed(("answer", "a", (), 3))
        world = world.with_entry("a", (), 3)
        self.assert_same(told, true_run(ORDER, world))
        self.assert_same(told[1], ("b", (3,), 8))
        self.assert_changed(desk, before, world=world)
        # A name that the order does not have is let, and one may be told anew.
        desk.take_deed(("answer", "zz", (1, 2, 3), 0))
        desk.take_deed(("answer", "a", (), 4))
        self.assert_same(desk.world.told, (("a", (), 4), ("b", (3,), 8), ("zz", (1, 2, 3), 0)))

    def test_answer_while_running(self):
        desk = desk_with(("go on", 1))
        self.assert_same([ask[2] for ask in desk.record.asks], ["a"])
        desk.take_deed(("answer", "b", (0,), 7))
        self.assert_same(desk.take_deed(("go on", 3))[0], (1, 2, "b", (0,), 7))

    def test_bad(self):
        desk = desk_with(("deadline", "a", 3))
        before = shown(desk)
        packet = ("corrupted", 1, 4, [1, True, {}])
        self.assert_same(desk.take_deed(("bad", packet)), ((1, 0),))
        self.assert_changed(desk, before, script=(packet,))
        self.assertIs(desk.script[0][3], packet[3])
        self.assert_same(desk.take_deed(("bad", ("lost", 0, 2))), ((1, 1),))
        self.assertEqual(desk.script, (("lost", 0, 2), packet))
        self.assertIs(desk.deeds[1][1], packet)

    def test_deadline(self):
        desk = desk_with(("go on", 2))
        before = shown(desk)
        self.assert_same(desk.take_deed(("deadline", "c", 400)), 5)
        self.assert_same(desk.take_deed(("deadline", "a", 0)), 0)
        self.assert_changed(desk, before, deadlines=(("c", 400), ("a", 0)))

    def test_checks(self):
        desk = desk_with(("bad", ("lost", 0, 2)), ("trust", [(0, 0)]), ("deadline", "c", 4))
        before = shown(desk)
        told = desk.take_deed(("checks", [7]))
        self.assertEqual(told, Checked((0,), 7, (((), ("a", "b", "c")),)))
        self.assertEqual(told, cheapest(PLAN, [("c", 4)], (7,)))
        checked = with_checks(PLAN, (0,))
        self.assert_changed(desk, before, plan=checked, trusted=checked.budgets, script=())
        desk = desk_with(("bad", ("lost", 0, 2)), ("trust", [(0, 0)]), ("deadline", "c", 3))
        before = shown(desk)
        self.assertEqual(desk.take_deed(("checks", (7,))), Never(("a", "b", "c")))
        self.assert_changed(desk, before)
        self.assert_same(desk.deeds[-1], ("checks", (7,)))

    def test_foe(self):
        desk = desk_with(("trust", [(0, 0)]), ("deadline", "c", 4))
        before = shown(desk)
        told = desk.take_deed(("foe", "c"))
        self.assertEqual(told, Foe(PLAN, "c").against(teller(PLAN.with_budgets(Budgets([(0, 0)])))))
        self.assertIs(type(told), Broken)
        self.assertEqual(told.word, "false")
        self.assert_changed(desk, before, world=told.world, script=told.script)

    def test_go_on(self):
        desk = desk_with(("world", 3, 1), ("bad", ("lost", 0, 1)))
        before = shown(desk)
        asks = ()
        for many in (1, 2, 3):
            made = desk.beats
            more = desk.take_deed(("go on", many))
            self.assertTrue(all(made <= ask[0] < made + many for ask in more))
            asks += more
        right = run(PLAN.net, ORDER, World((), 3, 1), teller(PLAN), [("lost", 0, 1)], 5)
        self.assert_same(asks, right.asks)
        self.assert_changed(desk, before, beats=6, record=right)
        self.assertEqual(desk.verdict(), judge_run(PLAN, desk.world, desk.script, right))

    def test_again(self):
        desk = desk_with(("bad", ("lost", 0, 1)), ("deadline", "a", 2), ("go on", 4))
        before = shown(desk)
        self.assert_same(desk.take_deed(("again",)), 4)
        self.assert_changed(desk, before, beats=0, record=None)
        self.assert_same(desk.deeds[-1], ("again",))
        desk.take_deed(("world", 1, 1))

    def test_back(self):
        chance = random.Random(212)
        for plan in chance_plans(212, 12, 4):
            if not is_small(plan):
                continue
            desk = Desk(plan)
            past = []
            for _ in range(30):
                before = shown(desk)
                deed = chance_deed(chance, desk)
                try:
                    told = desk.take_deed(deed)
                except AskedError:
                    self.assertEqual(shown(desk), before)
                    continue
                if deed == ("back",):
                    self.assert_equal_things(told, before["deeds"][-1])
                    self.assertEqual(shown(desk), past.pop())
                else:
                    past.append(before)
                    self.assertEqual(desk.deeds[:-1], before["deeds"])
            while past:
                desk.take_deed(["back"])
                self.assertEqual(shown(desk), past.pop())
            self.assertEqual(desk, Desk(plan))

    def test_kept_as_tuples(self):
        desk = Desk(PLAN)
        pairs = [[1, 1]]
        desk.take_deed(["lots", pairs])
        desk.take_deed(["answer", "a", [], 5])
        desk.take_deed(["trust", ([2, 1],)])
        pairs[0][0] = 0
        packet = ("corrupted", 0, 1, [1, [2]])
        desk.take_deed(["bad", packet])
        self.assert_same(desk.deeds, (("lots", ((1, 1),)), ("answer", "a", (), 5), ("trust", ((2, 1),)), ("bad", packet)))
        self.assertIs(desk.deeds[3][1], packet)
        self.assert_same(desk.trusted.pairs, ((2, 1),))

    def test_missed(self):
        desk = desk_with(("deadline", "c", 3), ("deadline", "b", 1), ("deadline", "c", 2), ("deadline", "a", 0),
                         ("deadline", "b", 0), ("deadline", "c", 1))
        missed = []
        for _ in range(6):
            desk.take_deed(("go on", 1))
            missed.append(desk.missed())
        # b is asked at 1. For c one copy is not enough where one can be false: it is asked at 3.
        self.assert_same([ask[0] for ask in desk.record.asks], [0, 1, 3])
        self.assert_same(missed, [(("b", 0),), (("b", 0), ("c", 1)), (("c", 2), ("b", 0), ("c", 1))] + [
            (("c", 2), ("b", 0), ("c", 1))] * 3)


class Tried(DeskCase):
    def test_returns_and_leaves_all_as_it_was(self):
        desk = desk_with(("world", 1, 1), ("bad", ("lost", 0, 1)))
        before = shown(desk)

        def call(tried):
            self.assertIs(tried, desk)
            for deed in (("back",), ("back",), ("lots", [(2, 2)]), ("order", "query z 1"), ("net", net_text(two_ends(2))),
                         ("trust", [(0, 0)]), ("deadline", "z", 3), ("go on", 5)):
                tried.take_deed(deed)
            return [tried.beats, tried.times(), tried.missed()]
        self.assert_same(desk.tried(call), [5, (("z", 0),), ()])
        self.assertEqual(shown(desk), before)
        desk.take_deed(("back",))
        self.assertEqual(desk, desk_with(("world", 1, 1)))
        self.assertEqual(shown(desk), shown(desk_with(("world", 1, 1))))

    def test_raises_and_leaves_all_as_it_was(self):
        for error in (KeyError("x"), BadDeed("beats"), ZeroDivisionError(), KeyboardInterrupt()):
            desk = desk_with(("go on", 2))
            before = shown(desk)

            def call(tried):
                tried.take_deed(("again",))
                tried.take_deed(("foe", "c"))
                raise error
            with self.assertRaises(type(error)):
                desk.tried(call)
            self.assertEqual(shown(desk), before)
            self.assert_same(desk.take_deed(("back",)), ("go on", 2))
        self.assert_raises(BadDeed("standing"), Desk(PLAN).tried, lambda tried: tried.take_deed(("again",)))

    def test_one_within_another(self):
        desk = desk_with(("go on", 1))

        def call(tried):
            tried.take_deed(("go on", 1))
            self.assert_same(tried.tried(lambda inner: inner.take_deed(("again",))), 2)
            return tried.beats
        self.assert_same(desk.tried(call), 2)
        self.assert_same(desk.beats, 1)


class Stories(DeskCase):
    def test_story(self):
        desk = desk_with(("world", 1, 1), ("deadline", "a", 5), ("back",), ("go on", 3))
        self.assertEqual(desk.tell_story(), Story(PLAN, (("world", 1, 1), ("go on", 3))))
        self.assert_equals(desk.tell_story, [Story(PLAN, ()), Story(PLAN.with_budgets(Budgets([(0, 0)])), desk.deeds)])

    def test_retold(self):
        chance = random.Random(213)
        words = set()
        for plan in chance_plans(213, 60, 4):
            if not is_small(plan):
                continue
            desk = Desk(plan)
            for _ in range(25):
                try:
                    desk.take_deed(chance_deed(chance, desk))
                except AskedError:
                    pass
            words |= {deed[0] for deed in desk.deeds}
            again = retell_story(desk.tell_story())
            self.assertEqual(again, desk)
            self.assertEqual(shown(again), shown(desk))
            while desk.deeds:
                self.assertEqual(again.take_deed(("back",)), desk.take_deed(("back",)))
                self.assertEqual(shown(again), shown(desk))
        self.assertEqual(len(words), 12)

    def test_what_a_deed_raises(self):
        self.assert_raises(BadDeed("deed"), retell_story, Story(PLAN, (("world", 1, 1), ("back",))))
        self.assert_raises(BadDeed("deed"), retell_story, Story(PLAN, (("back",),)))
        self.assert_raises(BadDeed("deed"), retell_story, Story(PLAN, (("odd",),)))
        self.assert_raises(BadDeed("deed"), retell_story, Story(PLAN, (None,)))
        self.assert_raises(BadOrder("unknown", "back"), retell_story, Story(PLAN, (("foe", "back"),)))
        self.assert_raises(BadDeed("beats"), retell_story, Story(PLAN, (("go on", 0), ("back",))))
        self.assert_raises(BadDeed("running"), retell_story, Story(PLAN, (("go on", 1), ("world", 1, 1))))

    def test_no_deeds(self):
        self.assertEqual(retell_story(Story(PLAN, ())), Desk(PLAN))


class Facts(DeskCase):
    """[16.1] and [16.6]"""

    def check_desk(self, desk):
        plan = desk.plan
        if desk.beats == 0:
            self.assertIsNone(desk.record)
            return
        trusting = plan.with_budgets(desk.trusted)
        self.assertEqual(desk.record, run(plan.net, plan.order, desk.world, teller(trusting), desk.script, desk.beats - 1))
        self.assertIsNone(script_fault(plan.net, plan.budgets, desk.script))
        verdict = desk.verdict()
        self.assertEqual(verdict, judge_run(plan, desk.world, desk.script, desk.record))
        missed = []
        for name, beat in desk.deadlines:
            asked = true_beat(plan.order, desk.world, desk.record.asks, name)
            if beat < desk.beats and (asked is None or asked > beat):
                missed.append((name, beat))
        self.assert_same(desk.missed(), tuple(missed))
        if desk.trusted.covers(plan.budgets):
            self.assertIs(type(verdict), Right)
            for (name, beat), asked in zip(times_of(trusting), verdict.beats):
                if beat < desk.beats:
                    self.assertIsNotNone(asked)
                    self.assertLessEqual(asked, beat)

    def test_rows_of_deeds(self):
        chance = random.Random(214)
        covered = 0
        for plan in chance_plans(214, 60, 5):
            desk = Desk(plan)
            for _ in range(25):
                deed = chance_deed(chance, desk)
                trial = desk.tried(lambda tried: self.sizes_after(tried, deed))
                if trial:
                    told = desk.take_deed(deed)
                    self.check_desk(desk)
                    self.check_told(desk, deed, told)
                    covered += desk.beats > 0
        self.assertGreater(covered, 150)

    def sizes_after(self, desk, deed):
        """Whether the deed can be made and leaves the desk within the sizes of Tellers."""
        try:
            desk.take_deed(deed)
        except AskedError:
            return False
        return is_small(desk.plan) and is_small(desk.plan.with_budgets(desk.trusted))

    def check_told(self, desk, deed, told):
        if deed[0] in ("order", "net", "lots"):
            self.assert_same(told, times_of(desk.plan))
        elif deed[0] == "trust":
            self.assert_same(told, times_of(desk.plan.with_budgets(desk.trusted)))
        elif deed[0] in ("world", "answer"):
            self.assert_same(told, true_run(desk.plan.order, desk.world))
        elif deed[0] == "bad":
            self.assert_same(told, spent(desk.plan.net, desk.script))
            self.assertIn(deed[1], make_script(desk.plan.net, desk.script))
        elif deed[0] == "checks" and isinstance(told, Checked):
            for name, beat in desk.deadlines:
                self.assertLessEqual(earliest(desk.plan, name).beat, beat)

    def test_behind_a_foe(self):
        chance = random.Random(215)
        words = set()
        for plan in chance_plans(215, 150, 5):
            if not is_small(plan) or not len(plan.order):
                continue
            desk = Desk(plan)
            trusted = [(max(0, one - chance.randint(0, 1)), other) for one, other in plan.budgets]
            desk.take_deed(("trust", trusted))
            name = chance.choice(plan.order.names)
            if earliest(plan, name).beat == 0:
                continue
            broken = desk.take_deed(("foe", name))
            if chance.random() < 0.5:
                desk.take_deed(("go on", 1))
                desk.take_deed(("deadline", name, 3))
                desk.take_deed(("again",))
            while desk.beats < broken.beat + 1:
                desk.take_deed(("go on", min(20, broken.beat + 1 - desk.beats)))
            words.add(broken.word)
            if broken.word == "false":
                self.assertEqual(desk.verdict(), Wrong(broken.name, broken.beat))
            else:
                self.assertIs(type(desk.verdict()), Right)
                self.assertIsNone(desk.verdict().beats[plan.order.place(name)])
        self.assertEqual(words, {"late", "false"})

    def test_directly_behind_checks(self):
        chance = random.Random(216)
        seen = set()
        for plan in chance_plans(216, 120, 5):
            if not len(plan.order):
                continue
            desk = Desk(plan)
            for _ in range(2):
                name = chance.choice(plan.order.names)
                desk.take_deed(("deadline", name, max(0, earliest(plan, name).beat - chance.randint(0, 3))))
            told = desk.take_deed(("checks", [chance.randint(0, 3) for _ in plan.budgets]))
            seen.add(type(told))
            if isinstance(told, Checked):
                for name, beat in desk.deadlines:
                    self.assertGreaterEqual(beat, earliest(desk.plan, name).beat)
        self.assertEqual(seen, {Checked, Never})

    def test_one_end(self):
        desk = Desk(Plan(chain(1, 1), Net(1, 1, ()), Budgets(())))
        self.assert_same(desk.take_deed(("go on", 1)), ((0, 1, "a", (), 0), (0, 1, "b", (0,), 0)))
        self.assertEqual(desk.verdict(), Right((0, 0)))
        self.assert_refused(BadScript("way", 0), desk, ("bad", ("lost", 0, 1)))
