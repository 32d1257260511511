"""[3.1] to [3.6]"""

import random
import unittest

from askedtrue.errors import BadNet
from askedtrue.nets import Net, Way
from tests.helpers import Case, chance_tree, line, two_ends

NO_NUMBERS = (None, True, False, "1", 1.0, (1,), [1])


def star():
    """Ends 2 to 5 around end 1; the ways out are 0, 2, 4, 6."""
    ways = []
    for end in range(2, 6):
        ways += [Way(1, end, 0, 0, 0), Way(end, 1, 0, 0, 0)]
    return Net(5, 1, ways)


class Ways(Case):
    def test_attributes(self):
        way = Way(1, 2, 3, 4, 5)
        self.assertEqual((way.source, way.goal, way.phase, way.delay, way.lot), (1, 2, 3, 4, 5))
        self.assertEqual(Way(lot=5, delay=4, phase=3, goal=2, source=1), way)

    def test_checks_nothing_and_keeps_its_arguments(self):
        things = [None, [1], "x", (), object()]
        way = Way(*things)
        for kept, thing in zip((way.source, way.goal, way.phase, way.delay, way.lot), things):
            self.assertIs(kept, thing)

    def test_equality(self):
        self.assert_equals(lambda: Way(1, 2, 3, 4, 5), [
            Way(0, 2, 3, 4, 5), Way(1, 0, 3, 4, 5), Way(1, 2, 0, 4, 5), Way(1, 2, 3, 0, 5), Way(1, 2, 3, 4, 0),
            (1, 2, 3, 4, 5)])


class Nets(Case):
    def test_attributes(self):
        ways = [Way(1, 2, 0, 0, 0), Way(1, 2, 1, 6, 3)]
        net = Net(2, 2, ways)
        ways.pop()
        self.assertEqual((net.ends, net.period), (2, 2))
        self.assertIs(type(net.ways), tuple)
        self.assertEqual(net.ways, (Way(1, 2, 0, 0, 0), Way(1, 2, 1, 6, 3)))

    def test_none_and_greatest(self):
        self.assertEqual(Net(1, 1, ()).ways, ())
        self.assertEqual(Net(5, 6, []).ways, ())
        self.assertEqual(len(Net(5, 6, [Way(5, 4, 5, 6, 3)] * 12).ways), 12)

    def test_ends(self):
        for ends in (0, 6, -1, *NO_NUMBERS):
            self.assert_raises(BadNet("ends", None), Net, ends, 0, None)

    def test_period(self):
        for period in (0, 7, -1, *NO_NUMBERS):
            self.assert_raises(BadNet("period", None), Net, 5, period, None)

    def test_ways(self):
        way = Way(1, 2, 0, 0, 0)
        for ways in (None, 1, "", {}, way, [way] * 13, [None], [way, (1, 2, 0, 0, 0)], [way, [1, 2, 0, 0, 0]]):
            self.assert_raises(BadNet("ways", None), Net, 2, 1, ways)
        self.assert_raises(BadNet("ways", None), Net, 2, 1, [Way(0, 0, 0, 0, 0), None])

    def refuse(self, word, *way):
        right = Way(1, 2, 0, 0, 0)
        for at in (0, 1, 11):
            self.assert_raises(BadNet(word, at), Net, 2, 3, [*[right] * at, Way(*way), *[right] * (11 - at)])
        self.assert_raises(BadNet(word, 1), Net, 2, 3, [right, Way(*way), Way(None, None, None, None, None)])

    def test_source(self):
        for source in (0, 3, -1, *NO_NUMBERS):
            self.refuse("source", source, None, None, None, None)

    def test_goal(self):
        for goal in (0, 3, 1, -1, *NO_NUMBERS):
            self.refuse("goal", 1, goal, None, None, None)

    def test_phase(self):
        for phase in (-1, 3, 6, *NO_NUMBERS):
            self.refuse("phase", 1, 2, phase, None, None)

    def test_delay(self):
        for delay in (-1, 7, *NO_NUMBERS):
            self.refuse("delay", 1, 2, 2, delay, None)

    def test_lot(self):
        for lot in (-1, 4, *NO_NUMBERS):
            self.refuse("lot", 1, 2, 2, 6, lot)

    def test_equality(self):
        self.assert_equals(lambda: Net(2, 2, [Way(1, 2, 0, 0, 0)]), [
            Net(3, 2, [Way(1, 2, 0, 0, 0)]), Net(2, 3, [Way(1, 2, 0, 0, 0)]), Net(2, 2, [Way(1, 2, 0, 0, 1)]),
            Net(2, 2, []), Net(2, 2, [Way(1, 2, 0, 0, 0)] * 2)])

    def test_ways_from_and_to(self):
        net = Net(3, 1, [Way(1, 2, 0, 0, 0), Way(3, 2, 0, 0, 0), Way(1, 2, 0, 1, 0), Way(2, 1, 0, 0, 0)])
        self.assert_same([net.ways_from(end) for end in (1, 2, 3)], [(0, 2), (3,), (1,)])
        self.assert_same([net.ways_to(end) for end in (1, 2, 3)], [(3,), (0, 1, 2), ()])
        for end in (0, 4, *NO_NUMBERS):
            self.assert_raises(BadNet("end", None), net.ways_from, end)
            self.assert_raises(BadNet("end", None), net.ways_to, end)

    def test_with_phases(self):
        net = two_ends(3, (1, 2), (0, 1), (2, 3))
        phases = [2, 0]
        other = net.with_phases(phases)
        self.assertEqual(other, two_ends(3, (1, 2), (2, 0), (2, 3)))
        self.assertEqual(other, net.with_phases((2, 0)))
        self.assertEqual(net, two_ends(3, (1, 2), (0, 1), (2, 3)))
        self.assertEqual(Net(1, 1, ()).with_phases(()), Net(1, 1, ()))

    def test_with_phases_refuses(self):
        net = two_ends(3)
        for phases in (None, 1, "00", {0: 0, 1: 1}, (), [0], (0, 0, 0), [9]):
            self.assert_raises(BadNet("phases", None), net.with_phases, phases)
        self.assert_raises(BadNet("phase", 0), net.with_phases, (3, None))
        self.assert_raises(BadNet("phase", 1), net.with_phases, [0, True])

    def test_with_lots(self):
        net = two_ends(3, (1, 2), (0, 1), (2, 3))
        self.assertEqual(net.with_lots([3, 0]), two_ends(3, (1, 2), (0, 1), (3, 0)))
        self.assertEqual(net.with_lots((3, 0)), net.with_lots([3, 0]))
        self.assertEqual(net, two_ends(3, (1, 2), (0, 1), (2, 3)))

    def test_with_lots_refuses(self):
        for lots in (None, 1, "00", {0: 0, 1: 1}, (), [0], (0, 0, 0), [9]):
            self.assert_raises(BadNet("lots", None), two_ends().with_lots, lots)
        self.assert_raises(BadNet("lot", 0), two_ends().with_lots, (4, None))
        self.assert_raises(BadNet("lot", 1), two_ends().with_lots, [0, True])


class Trees(Case):
    def test_trees(self):
        for net in (Net(1, 1, ()), two_ends(), line(3), line(5), star()):
            self.assertIs(net.is_tree, True)

    def test_no_trees(self):
        out, back = Way(1, 2, 0, 0, 0), Way(2, 1, 0, 0, 0)
        ring = [Way(one, other, 0, 0, 0) for one in (1, 2, 3) for other in (1, 2, 3) if one != other]
        apart = [Way(one, other, 0, 0, 0) for one, other in ((1, 2), (2, 1), (3, 4), (4, 3))]
        # As many ways as a tree of four ends has, each with one back, but a ring and an end apart.
        for net in (Net(2, 1, ()), Net(2, 1, (out,)), Net(2, 1, (out, out)), Net(2, 1, (out, back, out)),
                    Net(2, 1, (out, back, out, back)), Net(3, 1, (out, back)), Net(3, 1, ring), Net(4, 1, ring),
                    Net(4, 1, apart), Net(3, 1, (out, Way(2, 3, 0, 0, 0), Way(3, 1, 0, 0, 0))),
                    Net(3, 1, (out, back, Way(2, 3, 0, 0, 0))), Net(3, 1, (out, back, Way(2, 3, 0, 0, 0), Way(2, 3, 0, 0, 0))),
                    Net(3, 1, (out, back, Way(2, 3, 0, 0, 0), Way(3, 1, 0, 0, 0)))):
            self.assertIs(net.is_tree, False)

    def test_route(self):
        net = line(4)
        self.assert_same(net.route(1, 4), (0, 2, 4))
        self.assert_same(net.route(4, 1), (5, 3, 1))
        self.assert_same(net.route(3, 2), (3,))
        self.assert_same(net.route(2, 2), ())
        self.assert_same(star().route(2, 5), (1, 6))
        self.assert_same(star().route(1, 3), (2,))
        self.assert_same(Net(1, 1, ()).route(1, 1), ())

    def test_route_refuses(self):
        tree, other = two_ends(), Net(2, 1, ())
        for end in (0, 3, *NO_NUMBERS):
            self.assert_raises(BadNet("start", None), tree.route, end, end)
            self.assert_raises(BadNet("goal", None), tree.route, 1, end)
            self.assert_raises(BadNet("tree", None), other.route, end, end)
        self.assert_raises(BadNet("tree", None), other.route, 1, 1)

    def test_behind(self):
        net = line(4)
        self.assert_same([net.behind(way) for way in range(6)], [(1,), (2, 3, 4), (1, 2), (3, 4), (1, 2, 3), (4,)])
        self.assert_same([star().behind(way) for way in (0, 1, 6, 7)], [(1, 3, 4, 5), (2,), (1, 2, 3, 4), (5,)])

    def test_behind_refuses(self):
        for way in (-1, 2, *NO_NUMBERS):
            self.assert_raises(BadNet("way", None), two_ends().behind, way)
            self.assert_raises(BadNet("tree", None), Net(2, 1, [Way(1, 2, 0, 0, 0)]).behind, way)
        self.assert_raises(BadNet("way", None), Net(1, 1, ()).behind, 0)
        self.assert_raises(BadNet("tree", None), Net(2, 1, [Way(1, 2, 0, 0, 0)]).behind, 0)

    def test_routes_of_trees_by_chance(self):
        chance = random.Random(2)
        for _ in range(60):
            net = chance_tree(chance, chance.randint(1, 5))
            self.assertTrue(net.is_tree)
            for start in range(1, net.ends + 1):
                for goal in range(1, net.ends + 1):
                    route = net.route(start, goal)
                    ends = [start, *[net.ways[way].goal for way in route]]
                    self.assertEqual([net.ways[way].source for way in route], ends[:-1])
                    self.assertEqual(ends[-1], goal)
                    self.assertEqual(len(set(ends)), len(ends))
            for number, way in enumerate(net.ways):
                behind = [end for end in range(1, net.ends + 1) if number in net.route(end, way.goal)]
                self.assert_same(net.behind(number), tuple(behind))
                self.assertIn(way.source, behind)
                self.assertNotIn(way.goal, behind)

    def test_one_way_less_is_no_tree(self):
        chance = random.Random(3)
        for _ in range(30):
            net = chance_tree(chance, chance.randint(2, 5))
            self.assertFalse(Net(net.ends, net.period, net.ways[1:]).is_tree)
            self.assertFalse(Net(net.ends, net.period, (*net.ways, net.ways[0])).is_tree)


if __name__ == "__main__":
    unittest.main()
