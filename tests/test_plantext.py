"""[4.10]"""

import unittest

from askedtrue.errors import BadOrder, BadPlan, BadText
from askedtrue.lots import Budgets
from askedtrue.nets import Net
from askedtrue.orders import Event, Order
from askedtrue.plans import Plan
from askedtrue.plantext import parse_plan, plan_text
from tests.helpers import Case, chance_plans, two_ends

ROWS = ["net 2 2", "way 1 2 0 1 0", "way 2 1 1 0 1", "lot 0 1 0", "lot 1 0 2", "query a 1", "action b 2 a"]
TEXT = "\n".join(ROWS)
PLAN = Plan(Order([Event("a", 1, "query"), Event("b", 2, "action", ("a",))]), two_ends(2, (1, 0), (0, 1), (0, 1)),
            Budgets([(1, 0), (0, 2)]))
SMALLEST = Plan(Order(()), Net(1, 1, ()), Budgets(()))


def spoiled(at, *rows):
    """The text with other rows in the place of one."""
    return "\n".join([*ROWS[:at], *rows, *ROWS[at + 1:]])


class PlanText(Case):
    def test_text(self):
        self.assert_same(plan_text(PLAN), TEXT)
        self.assert_same(plan_text(SMALLEST), "net 1 1")
        self.assert_same(plan_text(PLAN.with_order(Order(()))), "\n".join(ROWS[:5]))
        self.assert_same(plan_text(SMALLEST.with_budgets(Budgets([(8, 0)]))), "net 1 1\nlot 0 8 0")

    def test_parse(self):
        self.assertEqual(parse_plan(TEXT), PLAN)
        self.assertEqual(parse_plan("net 1 1"), SMALLEST)
        self.assertEqual(parse_plan("\n".join(ROWS[:5])), PLAN.with_order(Order(())))
        self.assertEqual(parse_plan("net 1 3\nquery a 1"), Plan(Order([Event("a", 1, "query")]), Net(1, 3, ()), Budgets(())))

    def test_there_and_back(self):
        for plan in chance_plans(7, 150, 12):
            text = plan_text(plan)
            self.assertEqual(parse_plan(text), plan)
            self.assertEqual(plan_text(parse_plan(text)), text)

    def test_no_string(self):
        for text in (None, 1, b"net 1 1", ["net 1 1"], True):
            self.assert_raises(BadText(0), parse_plan, text)

    def test_rows_of_the_net(self):
        for row in ("", "net", "net 2", "net 6 2", "net 2 7", "net 02 2", "way 1 2 0 1 0", "lot 0 1 0", "query a 1"):
            self.assert_raises(BadText(0), parse_plan, spoiled(0, row))
        for row in ("way", "way ", "way 1 1 0 1 0", "way 3 2 0 1 0", "way 1 2 2 1 0", "way 1 2 0 7 0", "way 1 2 0 1 4",
                    "way 1 2 0 1", "way 1 2 0 1 0 0", "way 1 2 0 01 0", "ways 1 2 0 1 0", "net 2 2", ""):
            self.assert_raises(BadText(1), parse_plan, spoiled(1, row))
        self.assert_raises(BadText(13), parse_plan, spoiled(1, *[ROWS[1]] * 12))

    def test_rows_of_lots(self):
        for row in ("lot", "lot ", "lot 0", "lot 0 1", "lot 0 1 0 0", "lot 0 1 0 ", "lot 1 1 0", "lot 00 1 0", "lot 0 01 0",
                    "lot 0 1 00", "lot 0 +1 0", "lot 0 -1 0", "lot 0 x 0", "lot 0  0", "lot 0 9 0", "lot 0 0 9", "lot 0 5 4",
                    "lot 0 10 0", "lot 0 1\t0", "Lot 0 1 0", "lots 0 1 0", " lot 0 1 0", "", "lot 0 \u0661 0", "lot 0 \u00b9 0",
                    "lot 0 " + "1" * 5000 + " 0"):
            self.assert_raises(BadText(3), parse_plan, spoiled(3, row))
        for row in ("lot 0 0 2", "lot 2 0 2", "lot 1 0 8", "lot 1 8 0"):
            self.assert_raises(BadText(4), parse_plan, spoiled(4, row))
        self.assertEqual(parse_plan(spoiled(4, "lot 1 0 7")).budgets, Budgets([(1, 0), (0, 7)]))

    def test_fifth_lot(self):
        lots = [f"lot {lot} 1 1" for lot in range(4)]
        self.assertEqual(parse_plan("\n".join(["net 1 1", *lots])).budgets, Budgets([(1, 1)] * 4))
        self.assert_raises(BadText(5), parse_plan, "\n".join(["net 1 1", *lots, "lot 4 0 0"]))
        self.assert_raises(BadText(5), parse_plan, "\n".join(["net 1 1", *lots, "lot 4 0 0", "lot 5 0 0"]))

    def test_rows_of_the_order(self):
        for row in ("", "query", "query a", "query a 6", "query a 0", "query A 1", "query a 1 ", "query a 1 B", "lot 2 0 0",
                    "way 1 2 0 1 0", "net 2 2", "query  a 1"):
            self.assert_raises(BadText(6), parse_plan, spoiled(5, "query z 1", row))

    def test_rows_in_another_order(self):
        self.assert_raises(BadText(3), parse_plan, "\n".join([*ROWS[:2], ROWS[3], ROWS[2], *ROWS[4:]]))
        self.assert_raises(BadText(4), parse_plan, "\n".join([*ROWS[:3], ROWS[5], ROWS[3]]))

    def test_line_feed_at_the_end(self):
        self.assert_raises(BadText(7), parse_plan, TEXT + "\n")
        self.assert_raises(BadText(5), parse_plan, "\n".join(ROWS[:5]) + "\n")
        self.assert_raises(BadText(1), parse_plan, "net 1 1\n")
        for text in ("", "\n", "\n" + TEXT):
            self.assert_raises(BadText(0), parse_plan, text)

    def test_first_of_several(self):
        self.assert_raises(BadText(2), parse_plan, spoiled(2, "way 2 2 0 0 0", "lot", "x"))
        self.assert_raises(BadText(3), parse_plan, spoiled(3, "lot 9 0 0", "x"))
        self.assert_raises(BadText(0), parse_plan, spoiled(0, "net 0 0", "way", "lot", ""))

    def test_what_order_raises(self):
        self.assert_raises(BadOrder("twice", "a"), parse_plan, spoiled(6, "query a 1"))
        self.assert_raises(BadOrder("needs", "b"), parse_plan, spoiled(6, "query b 1 c"))
        self.assert_raises(BadOrder("many", None), parse_plan, spoiled(6, *[f"query b{at} 1" for at in range(12)]))
        self.assert_raises(BadText(18), parse_plan, spoiled(6, *[f"query b{at} 1" for at in range(12)], "x"))

    def test_what_plan_raises(self):
        self.assert_raises(BadPlan("tree"), parse_plan, spoiled(2, "way 1 2 0 1 0"))
        self.assert_raises(BadPlan("end"), parse_plan, spoiled(5, "query a 3"))
        self.assert_raises(BadPlan("lots"), parse_plan, "\n".join([*ROWS[:4], *ROWS[5:]]))

    def test_order_comes_ahead_of_plan(self):
        self.assert_raises(BadOrder("twice", "a"), parse_plan, "net 2 1\nquery a 5\nquery a 5")


if __name__ == "__main__":
    unittest.main()
