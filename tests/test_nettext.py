"""[3.9]"""

import random
import unittest

from askedtrue.errors import BadText
from askedtrue.nets import Net, Way
from askedtrue.nettext import net_text, parse_net
from tests.helpers import Case, chance_tree, two_ends

TEXT = "net 3 2\nway 1 2 0 1 0\nway 2 1 1 0 3\nway 2 1 1 6 1"
NET = Net(3, 2, [Way(1, 2, 0, 1, 0), Way(2, 1, 1, 0, 3), Way(2, 1, 1, 6, 1)])


class NetText(Case):
    def test_text(self):
        self.assert_same(net_text(two_ends(2, (1, 0), (0, 1))), "net 2 2\nway 1 2 0 1 0\nway 2 1 1 0 0")
        self.assert_same(net_text(NET), TEXT)
        self.assert_same(net_text(Net(1, 6, ())), "net 1 6")

    def test_parse(self):
        self.assertEqual(parse_net(TEXT), NET)
        self.assertEqual(parse_net("net 5 1"), Net(5, 1, ()))

    def test_there_and_back(self):
        chance = random.Random(6)
        for _ in range(100):
            net = chance_tree(chance, chance.randint(1, 5))
            net = Net(net.ends, net.period, (*net.ways, *net.ways)[:chance.randint(0, 12)])
            text = net_text(net)
            self.assertEqual(parse_net(text), net)
            self.assertEqual(net_text(parse_net(text)), text)

    def test_no_string(self):
        for text in (None, 1, b"net 1 1", ["net 1 1"], (), True):
            self.assert_raises(BadText(0), parse_net, text)

    def test_first_row(self):
        for row in ("", " ", "net", "net 2", "net 2 ", "net 2 1 ", " net 2 1", "net  2 1", "net 2  1", "net 2 1 0", "Net 2 1",
                    "nets 2 1", "2 1", "way 1 2 0 0 0", "net 0 1", "net 6 1", "net 2 0", "net 2 7", "net 02 1", "net 2 01",
                    "net +2 1", "net -2 1", "net 2 10", "net 2 x", "net\t2 1", "net 2 1\r", "net 2 \u0661", "net \u00b2 1",
                    "net 2 " + "1" * 5000, "net  "):
            self.assert_raises(BadText(0), parse_net, row)
            self.assert_raises(BadText(0), parse_net, row + "\nway 1 2 0 0 0")

    def test_rows_of_ways(self):
        for row in ("", " ", "way", "way 1 2 0 0", "way 1 2 0 0 ", "way 1 2 0 0 0 ", " way 1 2 0 0 0", "way  1 2 0 0 0",
                    "way 1 2 0 0 0 0", "Way 1 2 0 0 0", "ways 1 2 0 0 0", "net 2 2", "way 0 2 0 0 0", "way 4 2 0 0 0",
                    "way 1 0 0 0 0", "way 1 4 0 0 0", "way 1 1 0 0 0", "way 1 2 2 0 0", "way 1 2 -1 0 0", "way 1 2 0 7 0",
                    "way 1 2 0 0 4", "way 01 2 0 0 0", "way 1 2 00 0 0", "way 1 2 0 0 00", "way 1 2 0 10 0", "way 1 2 +0 0 0",
                    "way 1 2 0 0 -0", "way 1 2 0 x 0", "way 1 2 0 0 0\r", "way 1 2 0 0\t0", "way 1 2 0 \u00b9 0",
                    "lot 0 1 1", "query a 1", "way 1 2  0 0", "way 1 2 0 " + "6" * 5000 + " 0"):
            self.assert_raises(BadText(1), parse_net, "net 3 2\n" + row)
            self.assert_raises(BadText(2), parse_net, "net 3 2\nway 1 2 0 0 0\n" + row + "\nway 1 2 0 0 0")
            self.assert_raises(BadText(4), parse_net, TEXT + "\n" + row + "\nx")

    def test_one_end_has_no_ways(self):
        self.assert_raises(BadText(1), parse_net, "net 1 1\nway 1 1 0 0 0")

    def test_thirteenth_way(self):
        ways = ["way 1 2 0 0 0"] * 12
        self.assertEqual(len(parse_net("\n".join(["net 2 1", *ways])).ways), 12)
        self.assert_raises(BadText(13), parse_net, "\n".join(["net 2 1", *ways, "way 1 2 0 0 0"]))
        self.assert_raises(BadText(13), parse_net, "\n".join(["net 2 1", *ways, "way 1 2 0 0 0", "x"]))
        self.assert_raises(BadText(12), parse_net, "\n".join(["net 2 1", *ways[1:], "x", "way 1 2 0 0 0"]))

    def test_line_feed_at_the_end(self):
        self.assert_raises(BadText(4), parse_net, TEXT + "\n")
        self.assert_raises(BadText(1), parse_net, "net 1 1\n")
        self.assert_raises(BadText(0), parse_net, "\n" + TEXT)
        self.assert_raises(BadText(0), parse_net, "\n")

    def test_first_of_several(self):
        self.assert_raises(BadText(2), parse_net, "net 2 1\nway 1 2 0 0 0\nway 1 1 0 0 0\n\nx")


if __name__ == "__main__":
    unittest.main()
