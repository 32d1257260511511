"""[3.1], [3.7], [3.8]"""

import random
import unittest

from askedtrue.errors import BadNet
from askedtrue.nets import Net, Way
from askedtrue.turns import arrive, hops, is_turn, next_turn, turns
from tests.helpers import Case, chance_tree, line, two_ends

NO_NUMBERS = (None, True, False, "1", 1.0, (1,), [1])


def walk(net, route, beat):
    """The hops of a route, beat by beat."""
    found = []
    for number in route:
        way = net.ways[number]
        beat += 1
        while beat % net.period != way.phase:
            beat += 1
        found.append((number, beat, beat + way.delay))
        beat += way.delay
    return found


class Turns(Case):
    def test_is_turn(self):
        net = two_ends(3, phases=(0, 2))
        self.assertEqual([beat for beat in range(10) if is_turn(net, 0, beat)], [3, 6, 9])
        self.assertEqual([beat for beat in range(10) if is_turn(net, 1, beat)], [2, 5, 8])
        self.assertIs(is_turn(net, 0, 0), False)
        self.assertIs(is_turn(net, 0, 3), True)
        self.assertEqual([beat for beat in range(4) if is_turn(two_ends(), 0, beat)], [1, 2, 3])

    def test_next_turn(self):
        net = two_ends(3, phases=(0, 2))
        self.assert_same([next_turn(net, 0, beat) for beat in range(7)], [3, 3, 3, 6, 6, 6, 9])
        self.assert_same([next_turn(net, 1, beat) for beat in range(7)], [2, 2, 5, 5, 5, 8, 8])
        self.assertEqual(next_turn(two_ends(), 0, 0), 1)

    def test_turns(self):
        net = two_ends(3, phases=(0, 2))
        self.assert_same(turns(net, 0, 9), (3, 6, 9))
        self.assert_same(turns(net, 0, 8), (3, 6))
        self.assert_same(turns(net, 1, 9), (2, 5, 8))
        self.assert_same(turns(net, 1, 1), ())
        self.assert_same(turns(net, 0, 0), ())
        self.assert_same(turns(two_ends(), 1, 4), (1, 2, 3, 4))

    def test_they_agree(self):
        chance = random.Random(4)
        for _ in range(40):
            net = chance_tree(chance, chance.randint(2, 5))
            for way in range(len(net.ways)):
                found = turns(net, way, 30)
                self.assertEqual(found, tuple(beat for beat in range(1, 31) if beat % net.period == net.ways[way].phase))
                for beat in range(20):
                    self.assertIs(is_turn(net, way, beat), beat in found)
                    self.assertEqual(next_turn(net, way, beat), min(turn for turn in found if turn > beat))

    def test_refused(self):
        for call in (is_turn, next_turn, turns):
            for way in (-1, 2, *NO_NUMBERS):
                self.assert_raises(BadNet("way", None), call, two_ends(), way, None)
                self.assert_raises(BadNet("way", None), call, two_ends(), way, 1)
            for beat in (-1, *NO_NUMBERS):
                self.assert_raises(BadNet("beat", None), call, two_ends(), 1, beat)
            self.assert_raises(BadNet("way", None), call, Net(1, 1, ()), 0, 0)


class Hops(Case):
    def test_hops(self):
        net = Net(3, 3, [Way(1, 2, 1, 2, 0), Way(2, 3, 0, 0, 0), Way(3, 1, 2, 6, 0)])
        self.assert_same(list(hops(net, (0, 1, 2), 0)), [(0, 1, 3), (1, 6, 6), (2, 8, 14)])
        self.assert_same(list(hops(net, [2, 0], 1)), [(2, 2, 8), (0, 10, 12)])
        self.assert_same(list(hops(net, (1,), 2)), [(1, 3, 3)])
        self.assert_same(list(hops(net, (), 5)), [])

    def test_a_turn_is_behind_the_beat(self):
        # What is heard at a beat is known behind its work alone, so the next way sends it a beat later.
        self.assert_same(list(hops(line(3), (0, 2), 4)), [(0, 5, 5), (2, 6, 6)])

    def test_arrive(self):
        net = Net(3, 3, [Way(1, 2, 1, 2, 0), Way(2, 3, 0, 0, 0), Way(3, 1, 2, 6, 0)])
        self.assert_same(arrive(net, (0, 1, 2), 0), 14)
        self.assert_same(arrive(net, [0], 1), 6)
        self.assert_same(arrive(net, (), 7), 7)
        self.assert_same(arrive(net, [], 0), 0)

    def test_routes_need_not_be_shortest(self):
        self.assert_same(arrive(two_ends(), (0, 1, 0, 1, 0), 0), 5)
        ring = Net(3, 1, [Way(1, 2, 0, 0, 0), Way(2, 3, 0, 0, 0), Way(3, 1, 0, 0, 0)])
        self.assert_same(arrive(ring, (0, 1, 2, 0, 1, 2, 0), 3), 10)

    def test_is_a_generator(self):
        found = hops(two_ends(), [0, 1], 0)
        self.assertEqual(next(found), (0, 1, 1))
        self.assertEqual(next(found), (1, 2, 2))
        with self.assertRaises(StopIteration):
            next(found)

    def test_later_changes_of_the_route(self):
        route = [0, 1]
        found = hops(two_ends(), route, 0)
        next(found)
        route[1] = 7
        self.assertEqual(list(found), [(1, 2, 2)])

    def test_against_a_walk(self):
        chance = random.Random(5)
        for _ in range(100):
            net = chance_tree(chance, chance.randint(1, 5))
            route = net.route(chance.randint(1, net.ends), chance.randint(1, net.ends))
            beat = chance.randint(0, 20)
            found = walk(net, route, beat)
            self.assert_same(list(hops(net, route, beat)), found)
            self.assert_same(arrive(net, route, beat), found[-1][2] if found else beat)

    def test_refused(self):
        for call in (hops, arrive):
            for route in (None, 0, "0", {}, (0, 0), (0, 1, 1), (2,), (-1,), (0, 2), [None], [True], (False,), [[0]], ("0",)):
                self.assert_raises(BadNet("route", None), call, two_ends(), route, 0)
                self.assert_raises(BadNet("route", None), call, two_ends(), route, -1)
            for beat in (-1, *NO_NUMBERS):
                self.assert_raises(BadNet("beat", None), call, two_ends(), (0, 1), beat)
                self.assert_raises(BadNet("beat", None), call, two_ends(), (), beat)


if __name__ == "__main__":
    unittest.main()
