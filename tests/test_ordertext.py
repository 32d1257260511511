"""[1.6]"""

import random
import unittest

from askedtrue.errors import BadOrder, BadText
from askedtrue.orders import Event, Order
from askedtrue.ordertext import order_text, parse_order
from tests.helpers import Case, chance_order

TEXT = "query a 1\nquery c 5\naction b 2 a c\nquery a0000009 2 b"
ORDER = Order([Event("a", 1, "query"), Event("c", 5, "query"), Event("b", 2, "action", ("a", "c")),
               Event("a0000009", 2, "query", ("b",))])


class OrderText(Case):
    def test_text(self):
        self.assert_same(order_text(ORDER), TEXT)
        self.assert_same(order_text(Order(())), "")
        self.assertEqual(order_text(ORDER).split("\n")[2], "action b 2 a c")

    def test_parse(self):
        self.assertEqual(parse_order(TEXT), ORDER)
        self.assertEqual(parse_order(""), Order(()))
        self.assert_same(parse_order(TEXT).event("b").needs, ("a", "c"))

    def test_there_and_back(self):
        chance = random.Random(1)
        for _ in range(200):
            order = chance_order(chance, chance.randint(0, 12), 5)
            text = order_text(order)
            self.assertEqual(parse_order(text), order)
            self.assertEqual(order_text(parse_order(text)), text)

    def test_no_string(self):
        for text in (None, 1, b"", b"query a 1", ["query a 1"], (), True):
            self.assert_raises(BadText(0), parse_order, text)

    def test_wrong_rows(self):
        for row in ("", " ", "query", "query a", "query a ", "query a 1 ", " query a 1", "query  a 1", "query a  1",
                    "query a 1  b", "query a\t1", "query a 1\r", "Query a 1", "event a 1", "query A 1", "query 1 1",
                    "query abcdefghi 1", "query a 0", "query a 6", "query a 9", "query a 01", "query a 10", "query a +1",
                    "query a -1", "query a x", "query a \u0661", "query a \u00b9", "query a 1 B", "query a 1 a b 2c",
                    "query a 1 abcdefghi", "a query 1", "1 query a", "query a 1\u2028", "query a 1\x0b", "query  1",
                    "query a 12", " a 1", "queryaction a 1"):
            if row:
                self.assert_raises(BadText(0), parse_order, row)
            self.assert_raises(BadText(1), parse_order, "query z 1\n" + row)
            self.assert_raises(BadText(1), parse_order, "query z 1\n" + row + "\nquery y 1")
            self.assert_raises(BadText(2), parse_order, TEXT.replace("action b 2 a c", row))

    def test_line_feed_at_the_end(self):
        self.assert_raises(BadText(4), parse_order, TEXT + "\n")
        self.assert_raises(BadText(0), parse_order, "\n")
        self.assert_raises(BadText(0), parse_order, "\n" + TEXT)

    def test_first_of_several(self):
        self.assert_raises(BadText(1), parse_order, "query a 1\nquery\n\nquery b 1\nx")

    def test_rows_come_ahead_of_what_order_raises(self):
        rows = ["query a 1"] * 13
        self.assert_raises(BadText(13), parse_order, "\n".join([*rows, "x"]))
        self.assert_raises(BadOrder("many", None), parse_order, "\n".join(rows))

    def test_what_order_raises(self):
        self.assert_raises(BadOrder("twice", "a"), parse_order, "query a 1\nquery a 1")
        self.assert_raises(BadOrder("needs", "a"), parse_order, "query a 1 a")
        self.assert_raises(BadOrder("needs", "b"), parse_order, "query a 1\nquery b 1 a a")
        self.assert_raises(BadOrder("needs", "e"), parse_order,
                           "query a 1\nquery b 1\nquery c 1\nquery d 1\nquery e 1 a b c d")
        self.assert_raises(BadOrder("needs", "b"), parse_order, "query b 1 c\nquery c 1")

    def test_figures_of_any_length(self):
        self.assert_raises(BadText(0), parse_order, "query a " + "1" * 5000)


if __name__ == "__main__":
    unittest.main()
