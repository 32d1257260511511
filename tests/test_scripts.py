"""[4.4] to [4.7]"""

import unittest

from askedtrue.errors import BadScript
from askedtrue.lots import Budgets
from askedtrue.nets import Net
from askedtrue.scripts import heard_as, make_script, script_fault, spent
from tests.helpers import Case, line, two_ends

NET = line(3, period=2, lots=(0, 1, 3, 0))
# Ways 0 and 2 have their turns at even beats, 1 and 3 at odd ones.
SCRIPT = (("lost", 1, 1), ("corrupted", 3, 1, "x"), ("lost", 0, 2), ("corrupted", 2, 2, ("y",)), ("corrupted", 0, 4, 0))
BUDGETS = Budgets([(2, 1), (0, 1), (0, 0), (1, 0)])
NO_PACKETS = (
    None, 1, "lost", [], {}, (), ("lost",), ("lost", 0), ("lost", 0, 2, None), ("lost", 0, 2, "x"), ["lost", 0, 2],
    ("corrupted", 0, 2), ("corrupted", 0, 2, None), ("corrupted", 0, 2, "x", "y"), ["corrupted", 0, 2, "x"],
    ("clean", 0, 2), ("Lost", 0, 2), (None, 0, 2), (["lost"], 0, 2), ("clean", 0, 2, "x"), ("lost", -1, 2),
    ("lost", 0, -1), ("lost", True, 1), ("lost", False, 2), ("lost", 0, True), ("lost", None, 2), ("lost", "0", 2),
    ("lost", 0, None), ("lost", 0, 2.0), ("lost", 0, (2,)), ("corrupted", -1, 2, "x"), ("corrupted", 0, False, "x"))


class ScriptFault(Case):
    def fault(self, script):
        return script_fault(NET, BUDGETS, script)

    def test_right(self):
        for script in (SCRIPT, list(SCRIPT), (), [], SCRIPT[:3], SCRIPT[2:]):
            self.assertIsNone(self.fault(script))
        self.assertIsNone(script_fault(Net(1, 1, ()), Budgets(()), ()))

    def test_any_packet_but_none(self):
        for packet in (0, False, "", (), [], {}, [None], object(), "x" * 1000):
            self.assertIsNone(self.fault([("corrupted", 0, 2, packet)]))

    def test_no_sequence(self):
        for script in (None, 1, "", "lost", {}, {("lost", 0, 2): 1}, iter(SCRIPT)):
            self.assert_same(self.fault(script), ("script", None))

    def test_packet(self):
        for thing in NO_PACKETS:
            self.assert_same(self.fault([thing, ("lost", 9, 9)]), ("packet", 0))
            self.assert_same(self.fault((*SCRIPT, thing, ("lost", 9, 9))), ("packet", 5))

    def test_way(self):
        for way in (4, 5, 10 ** 300):
            self.assert_same(self.fault([("lost", way, 2), None]), ("way", 0))
            self.assert_same(self.fault([*SCRIPT, ("corrupted", way, 0, "x")]), ("way", 5))
        self.assert_same(script_fault(Net(1, 1, ()), Budgets(()), [("lost", 0, 1)]), ("way", 0))

    def test_turn(self):
        for way, beat in ((0, 0), (0, 1), (0, 3), (1, 2), (3, 0), (2, 10 ** 300 + 1)):
            self.assert_same(self.fault([("lost", way, beat), None]), ("turn", 0))
            self.assert_same(self.fault([*SCRIPT, ("corrupted", way, beat, "x")]), ("turn", 5))
        self.assertIsNone(self.fault([("lost", 0, 10 ** 300)]))

    def test_order(self):
        for thing in (("lost", 0, 2), ("lost", 0, 4), ("corrupted", 0, 4, 0), ("corrupted", 3, 3, "x")):
            self.assert_same(self.fault([*SCRIPT, thing, None]), ("order", 5))
        self.assert_same(self.fault([("lost", 2, 2), ("lost", 0, 2)]), ("order", 1))
        self.assert_same(self.fault([("lost", 0, 2), ("corrupted", 0, 2, "x")]), ("order", 1))
        self.assertIsNone(script_fault(NET, Budgets([(8, 0)]), [("corrupted", 3, 1, "x"), ("corrupted", 0, 2, "x")]))

    def test_which_comes_first(self):
        self.assert_same(self.fault([("lost", 9, 9), ("lost", 0, 1)]), ("way", 0))
        self.assert_same(self.fault([("lost", 0, 1), ("lost", 9, 9), None]), ("turn", 0))
        self.assert_same(self.fault([("lost", 0, 4), ("lost", 0, 1)]), ("turn", 1))
        self.assert_same(self.fault([("lost", 0, 4), ("lost", 0, 2), None]), ("order", 1))
        self.assert_same(self.fault([("lost", 2, 2), ("lost", 0, 3)]), ("turn", 1))

    def test_beyond(self):
        self.assert_same(self.fault([("lost", 0, 2), ("lost", 0, 4)]), ("beyond", 0))
        self.assert_same(self.fault([("lost", 0, 2), ("lost", 3, 3)]), ("beyond", 0))
        self.assert_same(self.fault([("corrupted", 1, 1, "x")]), ("beyond", 1))
        self.assert_same(self.fault([("lost", 2, 2)]), ("beyond", 3))
        self.assert_same(self.fault([("lost", 2, 2), ("corrupted", 1, 3, "x")]), ("beyond", 1))
        self.assert_same(self.fault([("corrupted", 0, beat, "x") for beat in (2, 4, 6)]), ("beyond", 0))
        self.assertIsNone(self.fault([("corrupted", 0, beat, "x") for beat in (2, 4)]))

    def test_lot_without_a_pair(self):
        self.assertIsNone(script_fault(NET, Budgets([(1, 1)]), [("lost", 0, 2)]))
        self.assert_same(script_fault(NET, Budgets([(1, 1)]), [("lost", 1, 1)]), ("beyond", 1))
        self.assert_same(script_fault(NET, Budgets([(1, 1)]), [("corrupted", 2, 2, "x")]), ("beyond", 3))
        self.assert_same(script_fault(NET, Budgets(()), [("lost", 0, 2), ("lost", 2, 2)]), ("beyond", 0))
        self.assertIsNone(script_fault(NET, Budgets(()), []))

    def test_beyond_comes_last(self):
        self.assert_same(self.fault([("lost", 2, 2), ("lost", 2, 2)]), ("order", 1))


class Spent(Case):
    def test_spent(self):
        self.assert_same(spent(NET, SCRIPT), ((2, 1), (0, 1), (0, 0), (1, 0)))
        self.assert_same(spent(NET, list(SCRIPT[:2])), ((1, 0), (0, 1), (0, 0), (0, 0)))
        self.assert_same(spent(NET, ()), ((0, 0),) * 4)
        self.assert_same(spent(two_ends(), [("lost", 0, 1)]), ((0, 1),))
        self.assert_same(spent(two_ends(lots=(2, 1)), [("corrupted", 1, 1, "x")]), ((0, 0), (1, 0), (0, 0)))
        self.assert_same(spent(Net(1, 1, ()), ()), ())

    def test_no_limit(self):
        script = [("lost", 0, beat) for beat in range(1, 101)]
        self.assert_same(spent(two_ends(), script), ((0, 100),))
        self.assert_same(make_script(two_ends(), script), tuple(script))

    def test_refused(self):
        for script, what, at in (
                (None, "script", None), ("", "script", None), ([*SCRIPT, ["lost", 0, 6]], "packet", 5),
                ([("lost", 4, 2), None], "way", 0), ([("lost", 0, 2), ("lost", 0, 5)], "turn", 1),
                ([("lost", 0, 4), ("lost", 0, 2), None], "order", 1)):
            self.assert_raises(BadScript(what, at), spent, NET, script)
        for thing in NO_PACKETS:
            self.assert_raises(BadScript("packet", 0), spent, NET, [thing])


class MakeScript(Case):
    def test_sorts(self):
        bad = [SCRIPT[4], SCRIPT[1], SCRIPT[3], SCRIPT[0], SCRIPT[2]]
        self.assert_same(make_script(NET, bad), SCRIPT)
        self.assert_same(bad, [SCRIPT[4], SCRIPT[1], SCRIPT[3], SCRIPT[0], SCRIPT[2]])
        self.assert_same(make_script(NET, tuple(bad)), SCRIPT)
        self.assert_same(make_script(NET, []), ())

    def test_packets_are_kept_as_they_are(self):
        packet = ["any", {}]
        script = make_script(NET, [("corrupted", 2, 2, object), ("corrupted", 0, 2, packet)])
        self.assertIs(script[0][3], packet)
        self.assertIs(script[1][3], object)

    def test_refused_ahead_of_sorting(self):
        for bad in (None, 1, "", {}):
            self.assert_raises(BadScript("script", None), make_script, NET, bad)
        for thing in NO_PACKETS:
            self.assert_raises(BadScript("packet", 2), make_script, NET, [("lost", 9, 9), ("lost", 0, 1), thing, None])

    def test_refused_in_the_sorted_row(self):
        self.assert_raises(BadScript("way", 0), make_script, NET, [("lost", 0, 5), ("lost", 0, 4), ("lost", 4, 3)])
        self.assert_raises(BadScript("turn", 1), make_script, NET, [("lost", 0, 3), ("lost", 9, 4), ("lost", 0, 2)])
        self.assert_raises(BadScript("order", 2), make_script, NET,
                           [("lost", 2, 4), ("lost", 0, 4), ("lost", 0, 2), ("corrupted", 0, 4, "x")])
        self.assert_raises(BadScript("order", 1), make_script, NET,
                           [("corrupted", 0, 2, "x"), ("corrupted", 0, 2, 1), ("corrupted", 0, 2, ()), ("lost", 9, 9)])

    def test_first_in_the_sorted_row(self):
        self.assert_raises(BadScript("turn", 0), make_script, NET, [("lost", 9, 4), ("lost", 0, 2), ("lost", 1, 2), ("lost", 0, 1)])


class HeardAs(Case):
    def test_heard_as(self):
        for script in (SCRIPT, list(SCRIPT)):
            self.assertIsNone(heard_as(script, 0, 2, "p"))
            self.assertEqual(heard_as(script, 2, 2, "p"), ("y",))
            self.assertEqual(heard_as(script, 0, 4, "p"), 0)
            self.assertEqual(heard_as(script, 3, 1, "p"), "x")

    def test_clean(self):
        packet = ["p"]
        for way, beat in ((2, 0), (2, 4), (0, 6), (1, 2), (4, 0), (9, 9)):
            self.assertIs(heard_as(SCRIPT, way, beat, packet), packet)
        self.assertIs(heard_as((), 0, 2, packet), packet)
        self.assertIsNone(heard_as((), 0, 2, None))

    def test_the_packet_of_the_script_itself(self):
        packet = []
        self.assertIs(heard_as([("corrupted", 0, 2, packet)], 0, 2, "p"), packet)

    def test_corrupted_to_what_was_sent(self):
        script = [("corrupted", 0, 2, "p")]
        self.assertEqual(heard_as(script, 0, 2, "p"), "p")
        self.assert_same(spent(NET, script)[0], (1, 0))


if __name__ == "__main__":
    unittest.main()
