"""[15.9]"""

import itertools
import random

from askedtrue.flooding import flooder
from askedtrue.nets import Net, Way
from askedtrue.orders import Event, Order
from askedtrue.plays import play
from askedtrue.ringplans import RingPlan, ring_time
from askedtrue.runner import run
from askedtrue.scripts import make_script
from askedtrue.tables import is_copy
from askedtrue.turns import turns
from askedtrue.worlds import World, false_ask, true_beat
from tests.chances import chance_copy, chance_world
from tests.helpers import Case, chain, two_ends
from tests.rings import chance_ring_plan

RING = Net(3, 1, [Way(1, 2, 0, 0, 0), Way(2, 3, 0, 0, 0), Way(3, 1, 0, 0, 0)])
ODD = (0, -7, True, False, "x", "a", (), (1,), (None, None), ((True, ()),), ((9, ()),), ((0, ()), (1, (), 2)), ("a", (), 8))


def chance_forged(chance, plan, left):
    """What a packet comes out as: with at most so many pairs that a flooder would take, among things that it skips."""
    if chance.random() < 0.2:
        return chance.choice(ODD), left
    things = [chance.choice((*ODD, None)) for _ in range(chance.randint(0, 2))]
    for _ in range(chance.randint(0, min(left, 3))):
        end = chance.randint(1, plan.net.ends)
        things.append((end, chance_copy(chance, plan.order, end, (0, 1, 2))))
        left -= 1
    chance.shuffle(things)
    return tuple(things), left


def chance_bad(chance, plan, last):
    """A script with as many bad packets as the plan lets, here and there or all together."""
    places = [(way, beat) for way in range(len(plan.net.ways)) for beat in turns(plan.net, way, last)]
    chance.shuffle(places)
    if chance.random() < 0.5:
        first = chance.randint(0, last)
        places.sort(key=lambda place: abs(place[1] - first))
    left = 8
    bad = []
    for way, beat in places[:plan.bad]:
        if plan.corrupted and chance.random() < 0.7:
            packet, left = chance_forged(chance, plan, left)
            bad.append(("corrupted", way, beat, packet))
        else:
            bad.append(("lost", way, beat))
    return make_script(plan.net, bad)


def table_at(told, end, beat):
    """The table of an end behind the work of a beat."""
    return tuple(sorted({ask[2:] for ask in told.asks if ask[1] == end and ask[0] <= beat}))


def kept_at(plan, told, end, beat):
    """The copies that an end keeps behind the work of a beat, by other ends: all that it heard, but parts of others."""
    ways = [number for number, way in enumerate(plan.net.ways) if way.goal == end]
    copies = {other: [] for other in range(1, plan.net.ends + 1) if other != end}
    for heard, way, packet in told.heard:
        if way in ways and heard <= beat and isinstance(packet, tuple):
            for thing in packet:
                if isinstance(thing, tuple) and len(thing) == 2 and type(thing[0]) is int and thing[0] in copies:
                    if is_copy(plan.order, *thing):
                        copies[thing[0]].append(thing[1])
    return {other: {one for one in rows if not any(set(one) < set(more) for more in rows)} for other, rows in copies.items()}


class Flooding(Case):
    def check_run(self, plan, world, told):
        self.assertIsNone(false_ask(plan.order, world, told.asks))
        pairs = [(name, key) for _, _, name, key, _ in told.asks]
        self.assertEqual(len(pairs), len(set(pairs)))
        for name in plan.order.names:
            beat = ring_time(plan, name).beat
            if beat <= told.last:
                asked = true_beat(plan.order, world, told.asks, name)
                self.assertIsNotNone(asked)
                self.assertLessEqual(asked, beat)

    def test_in_time_wherever_the_bad_packets_fall(self):
        chance = random.Random(201)
        forged = 0
        for _ in range(250):
            plan = chance_ring_plan(chance, 6, 4)
            last = max([ring_time(plan, name).beat for name in plan.order.names])
            world = chance_world(chance)
            script = chance_bad(chance, plan, last)
            forged += sum(bad[0] == "corrupted" for bad in script)
            told = run(plan.net, plan.order, world, flooder(plan), script, last)
            self.check_run(plan, world, told)
        self.assertGreater(forged, 80)

    def test_no_bad_packet(self):
        plan = RingPlan(chain(1, 2, 3, 1), RING, 0)
        told = run(RING, plan.order, World((), 1, 1), flooder(plan), (), 6)
        self.assert_same(told.asks, ((0, 1, "a", (), 1), (1, 2, "b", (1,), 2), (2, 3, "c", (2,), 3), (3, 1, "d", (3,), 4)))

    def test_all_packets_lost_up_to_the_limit(self):
        plan = RingPlan(chain(1, 2), two_ends(), 8)
        script = [("lost", 0, beat) for beat in range(1, 9)]
        told = run(plan.net, plan.order, World((), 5), flooder(plan), script, 9)
        self.assert_same(told.asks, ((0, 1, "a", (), 5), (9, 2, "b", (5,), 5)))

    def test_an_action_is_asked_once(self):
        order = Order([Event("a", 1, "query"), Event("b", 2, "action", ("a",)), Event("c", 1, "action", ("b",))])
        plan = RingPlan(order, two_ends(), 3, False)
        told = run(plan.net, order, World((), 5), flooder(plan), [("lost", 0, 1), ("lost", 1, 3)], 12)
        self.assert_same([ask[:3] for ask in told.asks], [(0, 1, "a"), (2, 2, "b"), (4, 1, "c")])

    def test_packets_and_asks_by_the_words(self):
        chance = random.Random(202)
        for _ in range(60):
            plan = chance_ring_plan(chance, 4, 3)
            last = 7
            world = chance_world(chance)
            told = run(plan.net, plan.order, world, flooder(plan), chance_bad(chance, plan, last), last)
            for beat, way, packet in told.sent:
                end = plan.net.ways[way].source
                pairs = [(other, one) for other, rows in kept_at(plan, told, end, beat - 1).items() for one in rows]
                self.assert_same(packet, tuple(sorted([(end, table_at(told, end, beat - 1)), *pairs])))
            for end in range(1, plan.net.ends + 1):
                for beat in range(last + 1):
                    self.check_asked(plan, told, end, beat)

    def check_asked(self, plan, told, end, beat):
        """Each query at every key that comes out in some choice, and nothing else."""
        table = table_at(told, end, beat)
        kept = kept_at(plan, told, end, beat)
        keys = set()
        for choice in itertools.product(*[[(), *rows] for rows in kept.values()]):
            values = {name: value for name, _, value in play(plan.order, {end: table, **dict(zip(kept, choice))})}
            keys |= {(name, plan.order.key_of(name, values)) for name in plan.order.of_end(end)}
        keys = {(name, key) for name, key in keys if key is not None}
        asked = {(name, key) for name, key, _ in table}
        queries = {name for name in plan.order.names if plan.order.event(name).kind == "query"}
        self.assertEqual({pair for pair in keys if pair[0] in queries}, {pair for pair in asked if pair[0] in queries})
        self.assertLessEqual({pair[0] for pair in keys}, {pair[0] for pair in asked})

    def test_what_is_skipped(self):
        plan = RingPlan(chain(1, 2, 3), RING, 1)
        right = (1, (("a", (), 7),))
        program = flooder(plan)
        fresh = program(None, ("begin", 2))[0]
        for thing in (None, 0, "x", [right], ((1, (("a", (), 7),), 0),), ([1, right[1]],), ((True, right[1]),), ((4, ()),),
                      ((2, (("b", (1,), 7),)),), ((1, [("a", (), 7)]),), ((1, (("b", (), 7),)),), ((1, (("a", (), True),)),)):
            memory, _ = program(fresh, ("heard", 1, 0, thing))
            self.assertIsNone(program(memory, ("work", 1))[1], thing)
        for packet in ((right,), (None, right, 5), (right, right)):
            memory, _ = program(fresh, ("heard", 1, 0, packet))
            self.assert_same(program(memory, ("work", 1))[1], ("b", (7,)))
            self.assert_same(program(memory, ("tell", 2, 1))[1], ((1, right[1]), (2, ())))

    def test_memories_are_not_changed(self):
        plan = RingPlan(chain(1, 2, 2), RING, 1)
        program = flooder(plan)
        memory, _ = program(None, ("begin", 2))
        for word in (("heard", 1, 0, ((1, (("a", (), 7),)),)), ("work", 1), ("answer", "b", (7,), 9)):
            again = program(memory, word)
            memory, out = program(memory, word)
            self.assertEqual(out, again[1])
            self.assertEqual(program(memory, ("tell", 2, 1))[1], program(again[0], ("tell", 2, 1))[1])
        self.assert_same(out, ("c", (9,)))

    def test_at_the_greatest_number_of_pairs(self):
        """Eight forged copies in all, of which no two come out alike."""
        order = Order([Event("a", 1, "query"), Event("b", 3, "query"), Event("c", 2, "query", ("a", "b")),
                       Event("d", 1, "query", ("c", "b"))])
        net = Net(3, 1, [*RING.ways, Way(2, 1, 0, 0, 0)])
        plan = RingPlan(order, net, 4)
        forged = [tuple((end, ((name, (), 10 * number + end),)) for number, (end, name) in enumerate(
            [(1, "a"), (1, "a"), (3, "b"), (3, "b")])), tuple((end, ((name, (), 50 * number + end),)) for number, (
                end, name) in enumerate([(1, "a"), (1, "a"), (3, "b"), (3, "b")], 1))]
        script = [("corrupted", 0, 1, forged[0]), ("lost", 1, 1), ("corrupted", 0, 2, forged[1]), ("lost", 0, 3)]
        last = ring_time(plan, "d").beat
        told = run(net, order, World((), 3, 1), flooder(plan), script, last)
        self.check_run(plan, World((), 3, 1), told)
        self.assertGreater(len(told.asks), 20)
