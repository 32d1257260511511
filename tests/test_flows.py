"""[15.1] to [15.5]"""

import itertools
import random

from askedtrue.errors import BadRing
from askedtrue.flows import Many, cut, cut_fault, heard_by, many, many_fault
from askedtrue.nets import Net, Way
from tests.helpers import Case, line, two_ends
from tests.rings import all_flows, chance_layers, chance_net, chance_ring, most_apart, places_until, plain_heard, plain_most

RING = Net(3, 2, [Way(1, 2, 0, 0, 0), Way(2, 3, 1, 1, 0), Way(3, 1, 0, 2, 1), Way(1, 3, 1, 3, 2), Way(1, 2, 1, 4, 3)])
ENDS_WRONG = (0, 4, -1, True, False, None, "1")


def is_plain_flow(net, start, goal, beat, last, flow):
    end, heard = start, beat
    for number, turn in flow:
        way = net.ways[number]
        if way.source != end or turn <= heard or turn % net.period != way.phase:
            return False
        end, heard = way.goal, turn + way.delay
    return bool(flow) and end == goal and heard <= last


class HeardBy(Case):
    def test_worked_by_hand(self):
        self.assert_same(heard_by(RING, 1, 0), (0, 2, 4))
        self.assert_same(heard_by(RING, 1, 0, [(3, 1), (0, 2)]), (0, 4, 6))
        self.assert_same(heard_by(RING, 2, 1), (8, 1, 4))

    def test_no_ways(self):
        self.assert_same(heard_by(Net(3, 1, ()), 2, 7), (None, 7, None))
        self.assert_same(heard_by(Net(1, 1, ()), 1, 0), (0,))
        self.assert_same(heard_by(Net(2, 1, [Way(2, 1, 0, 0, 0)]), 1, 0), (0, None))

    def test_against_a_plain_search(self):
        chance = random.Random(181)
        seen = set()
        for _ in range(400):
            net = chance_net(chance, 5, 12, 6, 6)
            start, beat = chance.randint(1, net.ends), chance.choice((0, 1, 5, 1200))
            places = places_until(net, beat, beat + 20)
            bad = chance.sample(places, min(len(places), chance.choice((0, 1, 3, 30))))
            right = plain_heard(net, start, beat, set(bad), beat + 100)
            self.assert_same(heard_by(net, start, beat, tuple(bad)), right)
            self.assert_same(heard_by(net, start, beat, bad + bad[:1]), right)
            seen |= {heard is None for heard in right}
        self.assertEqual(seen, {True, False})

    def test_wrong(self):
        for start in ENDS_WRONG:
            self.assert_raises(BadRing("start"), heard_by, RING, start, None, None)
        for beat in (-1, True, None, "1"):
            self.assert_raises(BadRing("beat"), heard_by, RING, 1, beat, None)
        for bad in (None, 5, "a", {(0, 2): 1}, [None], [(0,)], [(0, 2, 2)], [(5, 2)], [(-1, 2)], [(0, 1)], [(0, 0)],
                    [(0, -2)], [(False, 2)], [(3, True)], [(0, 2), (1, 2)], [("0", 2)], [(0, None)]):
            self.assert_raises(BadRing("bad"), heard_by, RING, 1, 0, bad)


class ManyFlows(Case):
    def check(self, net, start, goal, beat, count, told):
        self.assertIs(type(told), Many)
        self.assertIs(type(told.flows), tuple)
        self.assertEqual(len(told.flows), count)
        for flow in told.flows:
            self.assertTrue(type(flow) is tuple and all(type(place) is tuple for place in flow))
            self.assertTrue(is_plain_flow(net, start, goal, beat, told.beat, flow))
        places = [place for flow in told.flows for place in flow]
        self.assertEqual(len(set(places)), len(places))
        self.assertIsNone(many_fault(net, start, goal, beat, count, told))

    def test_one_way(self):
        net = two_ends(3, (2, 0), (1, 0))
        for count in range(1, 10):
            told = many(net, 1, 2, 0, count)
            self.assert_same(told.beat, 3 * count)
            self.check(net, 1, 2, 0, count, told)
        self.assert_same(many(net, 1, 2, 1, 1).flows, (((0, 4),),))

    def test_flows_that_must_exchange_their_ways(self):
        # The first flow alone is soonest by the middle way, which two flows at once cannot both use.
        net = Net(4, 6, [Way(1, 2, 1, 0, 0), Way(2, 3, 2, 0, 0), Way(3, 4, 3, 0, 0), Way(2, 4, 4, 0, 0), Way(1, 3, 2, 0, 0)])
        self.assert_same(many(net, 1, 4, 0, 1).beat, 3)
        told = many(net, 1, 4, 0, 2)
        self.assert_same(told.beat, 4)
        self.check(net, 1, 4, 0, 2, told)

    def test_a_flow_that_must_not_wait(self):
        # The first flow alone is soonest if it waits for the quick way, by which the second one must go.
        for start, between, goal in itertools.permutations((1, 2, 3)):
            net = Net(3, 6, [Way(start, between, 1, 0, 0), Way(start, between, 2, 0, 0), Way(between, goal, 3, 0, 0),
                             Way(between, goal, 2, 5, 0)])
            self.assert_same(many(net, start, goal, 0, 1).beat, 3)
            told = many(net, start, goal, 0, 2)
            self.assert_same(told.beat, 7)
            self.check(net, start, goal, 0, 2, told)
            self.assert_same(len(cut(net, start, goal, 0, 7)), 2)

    def test_flows_that_get_in_one_another_s_way(self):
        chance = random.Random(187)
        for _ in range(500):
            net, start, goal = chance_layers(chance)
            if heard_by(net, start, 0)[goal - 1] is None:
                continue
            for count in (2, 4, 6):
                told = many(net, start, goal, 0, count)
                self.check(net, start, goal, 0, count, told)
                self.assertGreaterEqual(plain_most(net, start, goal, 0, told.beat), count)
                self.assertLess(plain_most(net, start, goal, 0, told.beat - 1), count)

    def test_against_all_flows(self):
        chance = random.Random(182)
        checked = 0
        for _ in range(200):
            net = chance_net(chance, 3, 5, 1, 2)
            start, goal = chance.sample(range(1, net.ends + 1), 2)
            beat = chance.randint(0, 2)
            if plain_heard(net, start, beat, (), 30)[goal - 1] is None:
                self.assert_raises(BadRing("apart"), many, net, start, goal, beat, 1)
                continue
            for count in (1, 2, 3):
                told = many(net, start, goal, beat, count)
                self.check(net, start, goal, beat, count, told)
                if told.beat - beat <= 5:
                    checked += 1
                    self.assertGreaterEqual(most_apart(all_flows(net, start, goal, beat, told.beat)), count)
                    self.assertLess(most_apart(all_flows(net, start, goal, beat, told.beat - 1)), count)
        self.assertGreater(checked, 150)

    def test_against_a_plain_search_at_greater_sizes(self):
        chance = random.Random(183)
        for _ in range(60):
            net = chance_ring(chance, 5, 7, 6, 6)
            if net.ends == 1:
                continue
            start, goal = chance.sample(range(1, net.ends + 1), 2)
            beat, count = chance.choice((0, 3, 1000)), chance.randint(1, 9)
            told = many(net, start, goal, beat, count)
            self.check(net, start, goal, beat, count, told)
            self.assertGreaterEqual(plain_most(net, start, goal, beat, told.beat), count)
            self.assertLess(plain_most(net, start, goal, beat, told.beat - 1), count)

    def test_wrong(self):
        for end in ENDS_WRONG:
            self.assert_raises(BadRing("start"), many, RING, end, None, None, None)
            self.assert_raises(BadRing("goal"), many, RING, 1, end, None, None)
        self.assert_raises(BadRing("goal"), many, RING, 1, 1, None, None)
        for beat in (-1, True, None):
            self.assert_raises(BadRing("beat"), many, RING, 1, 2, beat, None)
        for count in (0, 10, True, None, "1"):
            self.assert_raises(BadRing("count"), many, RING, 1, 2, 0, count)
            self.assert_raises(BadRing("count"), many, Net(2, 1, ()), 1, 2, 0, count)
        self.assert_raises(BadRing("apart"), many, Net(2, 1, ()), 1, 2, 0, 1)
        self.assert_raises(BadRing("apart"), many, Net(2, 1, [Way(2, 1, 0, 0, 0)]), 1, 2, 0, 1)

    def test_result(self):
        self.assert_equals(lambda: Many(1, ()), [Many(2, ()), Many(1, ((),))])

    def test_facts(self):
        """[15.5]"""
        chance = random.Random(184)
        for _ in range(60):
            net = chance_ring(chance, 4, 4, 2, 4)
            if net.ends == 1:
                continue
            start, goal = chance.sample(range(1, net.ends + 1), 2)
            beat = chance.randint(0, 5)
            for count in (1, 2, 4):
                told = many(net, start, goal, beat, count).beat
                self.assertLessEqual(told, many(net, start, goal, beat + 1, count).beat)
                self.assertLessEqual(told, many(net, start, goal, beat, count + 1).beat)
                self.assertEqual(told + net.period, many(net, start, goal, beat + net.period, count).beat)
                for until in range(beat, min(beat + 12, told + 3)):
                    self.assertEqual(len(cut(net, start, goal, beat, until)) >= count, told <= until)
            heard = heard_by(net, start, beat)
            self.assertEqual(heard_by(net, start, beat + net.period), tuple(one + net.period for one in heard))


class ManyFault(Case):
    def test_words(self):
        right = many(RING, 1, 3, 0, 2)
        one, other = right.flows

        def word(beat, flows):
            return many_fault(RING, 1, 3, 0, 2, Many(beat, flows))
        self.assertIsNone(word(right.beat, right.flows))
        self.assertIsNone(word(right.beat, [list(other), list(one)]))
        for beat in (True, None, "4"):
            self.assert_same(word(beat, None), "beat")
        for flows in (None, 5, (), (one,), (one, other, one), "ab"):
            self.assert_same(word(right.beat, flows), "flows")
        for flow in (None, (), 5, ((0, 2),), ((1, 3),), one[1:] if len(one) > 1 else (), (*one, (2, 100)), ((3, 2),), ((3, 0),),
                     ((True, 3),), ((9, 1),), (None,), ((0, 4), (1, 3)), ((0, 2), (1, 3, 3)), ((3, 5),)):
            self.assert_same(word(right.beat, (one, flow)), "flow")
        self.assert_same(word(right.beat - 1, right.flows), "flow")
        self.assert_same(word(right.beat, (one, one)), "shared")
        late = many(RING, 1, 3, 0, 3)
        self.assert_same(word(late.beat, late.flows[1:]), "beat")
        self.assert_same(word(right.beat + 1, right.flows), "beat")

    def test_a_packet_at_once_behind_another(self):
        net = line(3)
        # A packet that is heard at a beat goes on at the next one.
        self.assert_same(many_fault(net, 1, 3, 0, 1, Many(2, (((0, 1), (2, 1)),))), "flow")
        self.assertIsNone(many_fault(net, 1, 3, 0, 1, Many(2, (((0, 1), (2, 2)),))))
        self.assert_same(many_fault(net, 1, 3, 1, 1, Many(3, (((0, 1), (2, 2)),))), "flow")

    def test_raises_as_many(self):
        told = Many(1, ())
        for end in ENDS_WRONG:
            self.assert_raises(BadRing("start"), many_fault, RING, end, 2, 0, 1, told)
            self.assert_raises(BadRing("goal"), many_fault, RING, 1, end, 0, 1, told)
        self.assert_raises(BadRing("beat"), many_fault, RING, 1, 2, -1, 1, told)
        self.assert_raises(BadRing("count"), many_fault, RING, 1, 2, 0, 0, told)
        self.assert_raises(BadRing("apart"), many_fault, Net(2, 1, ()), 1, 2, 0, 1, told)


class Cuts(Case):
    def check(self, net, start, goal, beat, until, told):
        self.assertIs(type(told), tuple)
        self.assertTrue(all(type(place) is tuple for place in told))
        self.assertEqual(list(told), sorted(set(told), key=lambda place: (place[1], place[0])))
        heard = plain_heard(net, start, beat, told, until)[goal - 1]
        self.assertTrue(heard is None or heard > until)
        self.assertIsNone(cut_fault(net, start, goal, beat, until, told))

    def test_against_all_flows(self):
        chance = random.Random(185)
        seen = set()
        for _ in range(250):
            net = chance_net(chance, 3, 5, 1, 2)
            start, goal = chance.sample(range(1, net.ends + 1), 2)
            beat = chance.randint(0, 2)
            until = chance.randint(0, beat + 4)
            told = cut(net, start, goal, beat, until)
            self.check(net, start, goal, beat, until, told)
            flows = all_flows(net, start, goal, beat, until)
            places = sorted({place for flow in flows for place in flow})
            self.assertTrue(all(flow & set(told) for flow in flows))
            for fewer in itertools.combinations(places, max(0, len(told) - 1)):
                self.assertTrue(not told or not all(flow & set(fewer) for flow in flows))
            seen.add(len(told))
        self.assertTrue({0, 1, 2, 3} <= seen, seen)

    def test_against_a_plain_search_at_greater_sizes(self):
        chance = random.Random(186)
        for _ in range(40):
            net = chance_ring(chance, 5, 7, 3, 3)
            if net.ends == 1:
                continue
            start, goal = chance.sample(range(1, net.ends + 1), 2)
            beat = chance.choice((0, 7, 1000))
            until = beat + chance.choice((5, 20, 40))
            told = cut(net, start, goal, beat, until)
            self.check(net, start, goal, beat, until, told)
            self.assertEqual(len(told), plain_most(net, start, goal, beat, until))

    def test_none_arrives(self):
        self.assert_same(cut(Net(2, 1, ()), 1, 2, 0, 40), ())
        self.assert_same(cut(RING, 1, 2, 0, 0), ())
        self.assert_same(cut(RING, 1, 2, 50, 3), ())
        self.assert_same(cut(RING, 1, 2, 0, 1), ())
        self.assert_same(cut(RING, 1, 2, 0, 2), ((0, 2),))

    def test_faults(self):
        right = cut(RING, 1, 3, 0, 6)
        self.assertGreater(len(right), 1)

        def word(told):
            return cut_fault(RING, 1, 3, 0, 6, told)
        self.assertIsNone(word(right))
        self.assertIsNone(word(list(right)))
        for told in (None, 5, "a", (None,), right[::-1], (right[0], *right), ((0, 1),), ((9, 2),), ((True, 3),), ((0, 2, 2),)):
            self.assert_same(word(told), "places")
        for at in range(len(right)):
            self.assert_same(word(right[:at] + right[at + 1:]), "through")
        self.assert_same(word(()), "through")
        more = tuple(sorted({*right, (2, 2)}, key=lambda place: (place[1], place[0])))
        self.assert_same(word(more), "few")
        self.assertIsNone(cut_fault(RING, 1, 3, 0, 3, ()))
        self.assert_same(cut_fault(RING, 1, 3, 0, 3, ((2, 2),)), "few")

    def test_wrong(self):
        for end in ENDS_WRONG:
            self.assert_raises(BadRing("start"), cut, RING, end, None, None, None)
            self.assert_raises(BadRing("goal"), cut, RING, 1, end, None, None)
            self.assert_raises(BadRing("start"), cut_fault, RING, end, None, None, None, None)
            self.assert_raises(BadRing("goal"), cut_fault, RING, 1, end, None, None, None)
        self.assert_raises(BadRing("goal"), cut, RING, 2, 2, None, None)
        for beat in (-1, True, None):
            self.assert_raises(BadRing("beat"), cut, RING, 1, 2, beat, None)
            self.assert_raises(BadRing("beat"), cut_fault, RING, 1, 2, beat, None, None)
            self.assert_raises(BadRing("until"), cut, RING, 1, 2, 0, beat)
            self.assert_raises(BadRing("until"), cut_fault, RING, 1, 2, 0, beat, None)
