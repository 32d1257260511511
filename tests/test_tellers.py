"""[8.4] to [8.9]"""

import random
import unittest

from askedtrue.errors import BadOrder
from askedtrue.lots import Budgets, could
from askedtrue.nets import Net, Way
from askedtrue.orders import Event, Order
from askedtrue.plans import Plan
from askedtrue.plays import play, play_keys
from askedtrue.runjudge import Right, judge_run
from askedtrue.runner import run
from askedtrue.sureness import sure_values
from askedtrue.tables import is_within
from askedtrue.tellers import Teller, teller
from askedtrue.times import earliest
from askedtrue.worlds import World, true_run
from tests.chances import chance_copy, chance_packet, chance_script, chance_world, is_small, last_time
from tests.helpers import Case, chain, chance_plans, line, two_ends

ORDER = Order([Event("a", 1, "query"), Event("b", 2, "query", ("a",)), Event("c", 3, "action", ("b",)),
               Event("d", 1, "query", ("c",)), Event("e", 1, "action")])
NET = line(3, lots=(0, 0, 1, 1))
PLAN = Plan(ORDER, NET, Budgets([(1, 0), (0, 2)]))
A, A2 = (("a", (), 5),), (("a", (), 6),)
B = (("b", (5,), 7),)
C = (("c", (7,), 9),)


def due_by_words(plan, told):
    """What due_asks should return, from the words of [8.5]."""
    heard = {other: told.copies_of(other) for other, _ in told.heard}
    most = {other: could(plan.net, plan.budgets, plan.net.route(other, told.end)) for other in heard}
    values = sure_values(plan.order, told.end, told.table, heard, most)
    keys = play_keys(plan.order, told.end, told.table, heard)
    rows = []
    for name in plan.order.of_end(told.end):
        if plan.order.event(name).kind == "query":
            rows += [(name, key) for other, key in keys if other == name and (name, key) not in [e[:2] for e in told.table]]
        elif name not in [entry[0] for entry in told.table]:
            key = plan.order.key_of(name, values)
            rows += [(name, key)] if key is not None else []
    return tuple(rows), values


class Tellers(Case):
    def test_attributes(self):
        told = Teller(PLAN, 2)
        self.assertIs(told.plan, PLAN)
        self.assert_same((told.end, told.table, told.heard), (2, (), ((1, ()), (3, ()))))
        told = Teller(PLAN, 2, B, [(3, [None, C])])
        self.assert_same((told.table, told.heard), (B, ((1, ()), (3, (None, C)))))
        told = Teller(PLAN, 2, heard=[[3, (C,)], [1, [A, None]]])
        self.assert_same(told.heard, ((1, (A, None)), (3, (C,))))
        self.assert_same(Teller(Plan(chain(1), Net(1, 1, ()), Budgets(())), 1).heard, ())

    def test_lists_are_not_kept(self):
        things = [A]
        heard = [[1, things]]
        told = Teller(PLAN, 2, (), heard)
        things.append(None)
        heard.append((3, [C]))
        self.assert_same(told.heard, ((1, (A,)), (3, ())))

    def test_equal(self):
        self.assert_equals(lambda: Teller(PLAN, 2, B, ((1, (A,)),)), [
            Teller(PLAN, 1, B, ((2, (A,)),)), Teller(PLAN, 2, (), ((1, (A,)),)), Teller(PLAN, 2, B), Teller(PLAN, 2, B, ((1, (A, A)),)),
            Teller(PLAN, 2, B, ((1, (A,)), (3, (None,)))), Teller(PLAN.with_budgets(Budgets([(0, 0)] * 2)), 2, B, ((1, (A,)),))])
        self.assertEqual(Teller(PLAN, 2, B, ((1, (A,)),)), Teller(PLAN, 2, B, [(3, ()), (1, [A])]))

    def test_copies_of(self):
        told = Teller(PLAN, 2, (), [(1, (A, None, A2, A, ()))])
        self.assert_same(told.copies_of(1), (A, A2, A, ()))
        self.assert_same(told.copies_of(3), ())

    def test_sure(self):
        told = Teller(PLAN, 2, B, [(1, (A, A)), (3, (C,))])
        self.assert_same([told.sure(name) for name in "abcde"], [5, 7, 9, None, None])
        told = Teller(PLAN, 2, B, [(1, (A, None)), (3, (C,))])
        self.assert_same([told.sure(name) for name in "abcde"], [None, None, 9, None, None])
        told = Teller(PLAN, 2, B, [(1, (A, A2, A))])
        self.assert_same(told.sure("a"), 5)
        self.assert_raises(BadOrder("unknown", "x"), told.sure, "x")
        self.assert_raises(BadOrder("unknown", None), told.sure, None)

    def test_sure_counts_the_lots_of_the_whole_route(self):
        plan = PLAN.with_budgets(Budgets([(1, 0), (1, 0)]))
        for many, right in ((1, None), (2, None), (3, 5)):
            self.assert_same(Teller(plan, 3, (), [(1, (A,) * many)]).sure("a"), right)
        for many, right in ((1, None), (2, 5)):
            self.assert_same(Teller(plan, 2, (), [(1, (A,) * many)]).sure("a"), right)

    def test_due_asks(self):
        self.assert_same(Teller(PLAN, 1).due_asks(), (("a", ()), ("e", ())))
        self.assert_same(Teller(PLAN, 1, A).due_asks(), (("e", ()),))
        self.assert_same(Teller(PLAN, 1, (("e", (), 0),)).due_asks(), (("a", ()),))
        self.assert_same(Teller(PLAN, 2).due_asks(), ())
        self.assert_same(Teller(PLAN, 2, (), [(1, (A2, A, None, A2))]).due_asks(), (("b", (5,)), ("b", (6,))))
        self.assert_same(Teller(PLAN, 2, B, [(1, (A2, A, None, A2))]).due_asks(), (("b", (6,)),))

    def test_an_action_is_due_once_and_with_sure_needs(self):
        for many, right in ((1, ()), (2, (("c", (7,)),))):
            told = Teller(PLAN, 3, (), [(1, (A,) * many), (2, (B,) * many)])
            self.assert_same(told.due_asks(), right)
            self.assert_same(told.next_ask(), right[0] if right else None)
        told = Teller(PLAN, 3, (("c", (8,), 0),), [(1, (A, A)), (2, (B, B))])
        self.assert_same(told.due_asks(), ())
        self.assertIsNone(told.next_ask())

    def test_next_ask_is_the_first(self):
        self.assert_same(Teller(PLAN, 1).next_ask(), ("a", ()))
        self.assert_same(Teller(PLAN, 1, A).next_ask(), ("e", ()))
        self.assert_same(Teller(PLAN, 2, (), [(1, (A2, A))]).next_ask(), ("b", (5,)))

    def test_answered(self):
        told = Teller(PLAN, 2, (), [(1, (A2, A))])
        after = told.answered("b", (5,), 7)
        self.assertEqual(after, Teller(PLAN, 2, B, [(1, (A2, A))]))
        self.assert_same(after.table, B)
        self.assert_same(told.table, ())
        self.assertEqual(after.answered("b", (5,), 8), after)
        self.assert_same(after.next_ask(), ("b", (6,)))
        self.assert_same(after.answered("b", (6,), 1).next_ask(), None)
        self.assert_same(after.answered("b", (4,), 1).next_ask(), ("b", (6,)))

    def test_an_answer_brings_later_events(self):
        order = Order([Event("a", 1, "query"), Event("b", 1, "query", ("a",)), Event("c", 1, "action", ("b",))])
        told = Teller(Plan(order, Net(1, 1, ()), Budgets(())), 1)
        for ask, value in ((("a", ()), 3), (("b", (3,)), 4), (("c", (4,)), 5)):
            self.assert_same(told.due_asks(), (ask,))
            told = told.answered(*ask, value)
        self.assert_same(told.due_asks(), ())

    def test_packet(self):
        told = Teller(PLAN, 2, B, [(1, (A, A2)), (3, (C, None))])
        self.assert_same(told.packet(1), ((2, B), (3, None)))
        self.assert_same(told.packet(2), ((1, A2), (2, B)))
        self.assert_same(Teller(PLAN, 2).packet(2), ((1, None), (2, ())))
        self.assert_same(Teller(PLAN, 1).packet(0), ((1, ()),))
        self.assert_same(Teller(PLAN, 3, C, [(1, (A,))]).packet(3), ((3, C),))


class Hearing(Case):
    TOLD = Teller(PLAN, 3, C, [(1, (A,)), (2, ())])

    def test_copies(self):
        after = self.TOLD.hear(2, ((1, A2), (2, B)))
        self.assertEqual(after, Teller(PLAN, 3, C, [(1, (A, A2)), (2, (B,))]))
        self.assert_same(after.heard, ((1, (A, A2)), (2, (B,))))
        self.assert_same(self.TOLD.heard, ((1, (A,)), (2, ())))
        self.assert_same(after.table, C)

    def test_what_is_not_behind_the_way_is_as_it_was(self):
        told = Teller(PLAN, 2, B, [(1, (A,)), (3, (C,))])
        self.assert_same(told.hear(0, ((1, A2),)).heard, ((1, (A, A2)), (3, (C,))))
        self.assert_same(told.hear(3, ((3, ()),)).heard, ((1, (A,)), (3, (C, ()))))
        self.assert_same(told.hear(3, None).heard, ((1, (A,)), (3, (C, None))))

    def test_one_thing_that_is_no_copy(self):
        for thing in (None, C, list(A), ["a"], 0, (("a", [], 5),), (("a", (), True),), (("a", (), 5), ("a", (), 5))):
            self.assert_same(self.TOLD.hear(2, ((1, thing), (2, B))).heard, ((1, (A, None)), (2, (B,))))
        self.assert_same(self.TOLD.hear(2, ((1, A2), (2, [*B]))).heard, ((1, (A, A2)), (2, (None,))))

    def test_no_packet(self):
        for packet in (None, 0, True, "ab", (), [], [(1, A2), (2, B)], ((1, A2), [2, B]), ([1, A2], (2, B)), ((1, A2),),
                       ((1, A2), (2, B), (3, C)), ((2, B), (1, A2)), ((1, A2), (1, B)), ((True, A2), (2, B)), ((1.0, A2), (2, B)),
                       (("1", A2), (2, B)), ((1, A2, 0), (2, B)), ((1,), (2, B)), (1, 2), ((1, A2), None), {1: A2, 2: B}):
            self.assert_same(self.TOLD.hear(2, packet).heard, ((1, (A, None)), (2, (None,))))

    def test_it_sees_what_it_heard(self):
        told = Teller(PLAN, 3).hear(2, ((1, A), (2, B)))
        self.assertIsNone(told.sure("a"))
        self.assertIsNone(told.next_ask())
        told = told.hear(2, ((1, A), (2, B)))
        self.assert_same((told.sure("a"), told.sure("b"), told.next_ask()), (5, 7, ("c", (7,))))

    def test_a_moved_teller_is_as_a_new_one(self):
        chance = random.Random(91)
        for plan in chance_plans(92, 60, 8):
            end = chance.randint(1, plan.net.ends)
            program = teller(plan)
            told = program(None, ("begin", end))[0]
            for _ in range(12):
                ways = plan.net.ways_to(end)
                if ways and chance.random() < 0.6:
                    way = chance.choice(ways)
                    packet = chance_packet(chance, plan, way)
                    after = told.hear(way, packet)
                    self.assertEqual(program(told, ("heard", 1, way, packet)), (after, None))
                    told = after
                else:
                    told, ask = program(told, ("work", 1))
                    for _ in range(chance.randint(0, 3)):
                        if ask is not None:
                            told, ask = program(told, ("answer", *ask, chance.randint(-1, 2)))
                new = Teller(plan, end, told.table, told.heard)
                self.assertEqual(told, new)
                due, values = due_by_words(plan, told)
                for one in (told, new):
                    self.assert_same(one.due_asks(), due)
                    self.assert_same(one.next_ask(), due[0] if due else None)
                    self.assert_same([one.sure(name) for name in plan.order.names], [values.get(name) for name in plan.order.names])


class Programs(Case):
    def test_its_words(self):
        program = teller(PLAN)
        memory, _ = program(None, ("begin", 2))
        self.assertEqual(memory, Teller(PLAN, 2))
        memory, out = program(memory, ("work", 0))
        self.assertEqual((memory, out), (Teller(PLAN, 2), None))
        memory, out = program(memory, ("tell", 1, 1))
        self.assertEqual(memory, Teller(PLAN, 2))
        self.assert_same(out, ((2, ()), (3, None)))
        memory, _ = program(memory, ("heard", 1, 0, ((1, A),)))
        self.assertEqual(memory, Teller(PLAN, 2, (), [(1, (A,))]))
        memory, out = program(memory, ("work", 1))
        self.assertEqual(memory, Teller(PLAN, 2, (), [(1, (A,))]))
        self.assert_same(out, ("b", (5,)))
        memory, out = program(memory, ("answer", "b", (5,), 7))
        self.assertEqual((memory, out), (Teller(PLAN, 2, B, [(1, (A,))]), None))
        self.assertIs(type(memory), Teller)

    def test_it_asks_all_that_is_due_and_nothing_twice(self):
        for plan in chance_plans(93, 60, 8):
            if is_small(plan):
                told = run(plan.net, plan.order, World((), 1, 1), teller(plan), (), 20)
                asked = [ask[1:4] for ask in told.asks]
                self.assertEqual(len(asked), len(set(asked)))

    def test_memories_are_not_changed(self):
        program = teller(PLAN)
        told = Teller(PLAN, 2, (), [(1, (A2, A))])
        for word in (("work", 3), ("tell", 3, 1), ("heard", 3, 0, ((1, ()),)), ("answer", "b", (5,), 7)):
            before = repr(vars(told))
            first = program(told, word)
            self.assertEqual(repr(vars(told)), before)
            self.assertEqual(program(told, word), first)

    def test_each_copy_is_handed_on_once(self):
        # Of each way one packet is heard between two turns of the next way: each copy passes each way of a route once.
        for plan in chance_plans(94, 40, 5):
            last = 30
            sent = []

            def program(memory, word, base=teller(plan)):
                memory, out = base(memory, word)
                if word[0] == "tell":
                    sent.append((word[1], word[2], out))
                return (memory, out)
            run(plan.net, plan.order, World((), 1, 1), program, (), last)
            for beat, way, packet in sent:
                source, goal = plan.net.ways[way].source, plan.net.ways[way].goal
                for end, copy in packet:
                    hop = beat
                    for number in reversed(plan.net.route(end, goal)[:-1]):
                        # The last packet of the way ahead that was heard at the latest at the beat ahead.
                        hop -= 1
                        hop -= plan.net.ways[number].delay
                        while hop > 0 and hop % plan.net.period != plan.net.ways[number].phase:
                            hop -= 1
                    if hop <= 0:
                        self.assertIsNone(copy if end != source else None)
                    else:
                        first = plan.net.route(end, goal)[0]
                        right = [row[2] for row in sent if row[:2] == (hop, first)][0]
                        self.assertEqual(copy, dict(right)[end])


class Promise(Case):
    def check(self, plan, world, script, last):
        right = {(name, key): value for name, key, value in true_run(plan.order, world)}
        base = teller(plan)
        sure = {}

        def program(memory, word):
            memory, out = base(memory, word)
            if word[0] in ("work", "answer") and out is None:
                values = {name: memory.sure(name) for name in plan.order.names if memory.sure(name) is not None}
                for name, value in values.items():
                    # Each sure value is that of the true run, and stays.
                    self.assertEqual(value, [right[row] for row in right if row[0] == name][0])
                self.assertLessEqual(sure.get(memory.end, {}).items(), values.items())
                sure[memory.end] = values
            return (memory, out)
        told = run(plan.net, plan.order, world, program, script, last)
        judged = judge_run(plan, world, script, told)
        self.assertIsInstance(judged, Right)
        for name, beat in zip(plan.order.names, judged.beats):
            due = earliest(plan, name).beat
            if due <= last:
                self.assertIsNotNone(beat)
                self.assertLessEqual(beat, due)
        return told

    def test_in_every_run(self):
        chance = random.Random(95)
        for plan in chance_plans(96, 150, 8):
            if is_small(plan):
                last = min(80, last_time(plan))
                for _ in range(2):
                    self.check(plan, chance_world(chance), chance_script(chance, plan, last), last)

    def test_in_runs_that_are_most_likely_to_fool(self):
        # Few numbers, one way there, all copies corrupted into what could be true.
        chance = random.Random(97)
        for _ in range(150):
            order = Order([Event("a", 1, "query"), Event("b", 2, "query", ("a",)), Event("c", 1, "query", ("b",)),
                           Event("d", 2, "action", ("c", "a")), Event("e", 1, "action", ("b", "d"))])
            pair = chance.choice(((1, 0), (2, 0), (1, 1), (3, 1), (0, 2)))
            plan = Plan(order, two_ends(chance.randint(1, 3)), Budgets([pair]))
            self.check(plan, World((), chance.randint(0, 1), 1), chance_script(chance, plan, 20), last_time(plan))

    def test_at_the_greatest_size(self):
        chance = random.Random(98)
        star = Net(5, 1, [Way(*ends, 0, 0, goal - 2) for goal in range(2, 6) for ends in ((1, goal), (goal, 1))])
        for net, pairs in ((star, [(2, 0)] * 4), (line(5), [(3, 5)]), (line(5, 2, 1), [(2, 3)]), (star, [(1, 1)] * 4),
                           (line(5, lots=(0, 0, 1, 1, 2, 2, 3, 3)), [(1, 1)] * 4)):
            order = [Event(name, at % 5 + 1, chance.choice(("query", "query", "action")),
                           chance.sample("abcdefghijkl"[:at], min(at, 3))) for at, name in enumerate("abcdefghijkl")]
            plan = Plan(Order(order), net, Budgets(pairs))
            self.assertTrue(is_small(plan))
            for last in (5, 20, 80):
                self.check(plan, chance_world(chance), chance_script(chance, plan, last), 80)


class Facts(Case):
    def test_when_a_query_is_asked(self):
        # [8.9]: no later than one true copy of each other end with forebears has come, and its own actions are asked.
        chance = random.Random(99)
        for plan in chance_plans(100, 80, 7):
            if not is_small(plan):
                continue
            last = min(40, last_time(plan))
            world = chance_world(chance)
            script = chance_script(chance, plan, last)
            right = true_run(plan.order, world)
            told = run(plan.net, plan.order, world, teller(plan), script, last)
            judged = judge_run(plan, world, script, told)
            for name, beat in zip(plan.order.names, judged.beats):
                if plan.order.event(name).kind == "query":
                    ready = self.ready_beat(plan, told, right, name)
                    if ready is not None:
                        self.assertLessEqual(beat, ready)

    def ready_beat(self, plan, told, right, name):
        end = plan.order.event(name).end
        elder = {entry for entry in right if name in plan.order.behind(entry[0])}
        beats = [0]
        for other in {plan.order.event(entry[0]).end for entry in elder}:
            wanted = tuple(sorted(entry for entry in elder if plan.order.event(entry[0]).end == other))
            if other == end:
                actions = [entry for entry in wanted if plan.order.event(entry[0]).kind == "action"]
                found = [max([self.asked_beat(told, entry) for entry in actions], default=0)]
            else:
                ways = [way for way in plan.net.ways_to(end) if other in plan.net.behind(way)]
                found = [beat for beat, way, packet in told.heard if way in ways
                         and is_within(wanted, dict(self.pairs_of(plan, way, packet)).get(other, ()))]
            if not found or found[0] is None:
                return None
            beats.append(found[0])
        return max(beats)

    def asked_beat(self, told, entry):
        beats = [ask[0] for ask in told.asks if ask[2:] == entry]
        return beats[0] if beats else 99

    def pairs_of(self, plan, way, packet):
        told = Teller(plan, plan.net.ways[way].goal).hear(way, packet)
        return [(other, things[0]) for other, things in told.heard if things and things[0] is not None]

    def test_how_many_keys_a_query_is_asked_with(self):
        chance = random.Random(101)
        for plan in chance_plans(102, 60, 7):
            if not is_small(plan):
                continue
            script = chance_script(chance, plan, 20)
            tellers = {}

            def program(memory, word, base=teller(plan)):
                memory, out = base(memory, word)
                tellers[memory.end] = memory
                return (memory, out)
            told = run(plan.net, plan.order, chance_world(chance), program, script, 25)
            for end, memory in tellers.items():
                most = 1
                for other, _ in memory.heard:
                    unlike = set(memory.copies_of(other))
                    most *= 1 + len([copy for copy in unlike if not is_within(copy, tellers[other].table)])
                for name in plan.order.of_end(end):
                    if plan.order.event(name).kind == "query":
                        self.assertLessEqual(len([ask for ask in told.asks if ask[2] == name]), most)

    def test_a_clean_packet_is_no_worse_than_a_lost_one(self):
        chance = random.Random(103)
        for plan in chance_plans(104, 60, 7):
            if not is_small(plan):
                continue
            world = chance_world(chance)
            script = chance_script(chance, plan, 15)
            lost = [bad for bad in script if bad[0] == "lost"]
            if lost:
                spared = chance.choice(lost)
                one = run(plan.net, plan.order, world, teller(plan), script, 25)
                other = run(plan.net, plan.order, world, teller(plan), [bad for bad in script if bad != spared], 25)
                for ask in one.asks:
                    self.assertTrue([row for row in other.asks if row[1:] == ask[1:] and row[0] <= ask[0]])

    def test_an_end_alone(self):
        plan = Plan(chain(1, 1, 1, kind="action"), Net(1, 3, ()), Budgets([(8, 0)]))
        told = self.assert_right(plan)
        self.assert_same(told.asks, ((0, 1, "a", (), 2), (0, 1, "b", (2,), 8), (0, 1, "c", (8,), 26)))

    def test_no_events(self):
        self.assert_same(self.assert_right(Plan(Order(()), line(3), Budgets([(1, 1)]))).asks, ())

    def assert_right(self, plan):
        told = run(plan.net, plan.order, World((), 2, 3), teller(plan), (), 5)
        self.assertIsInstance(judge_run(plan, World((), 2, 3), (), told), Right)
        return told


if __name__ == "__main__":
    unittest.main()
