"""[9.1] to [9.3], with the words of [0.4]"""

import random
import unittest

from askedtrue.errors import BadProgram, BadScript
from askedtrue.nets import Net, Way
from askedtrue.orders import Event, Order
from askedtrue.runner import Run, run, view
from askedtrue.scripts import heard_as
from askedtrue.tellers import teller
from askedtrue.turns import is_turn
from askedtrue.worlds import World
from tests.chances import chance_script, chance_world
from tests.helpers import Case, chain, chance_plans, two_ends
from tests.programs import KINDS, lister, silent

ORDER = Order([Event("a", 1, "query"), Event("b", 2, "query", ("a",)), Event("c", 3, "action", ("a", "b"))])
# Any net: no way back, two ways from 1 to 2, an end without ways.
NET = Net(4, 2, (Way(2, 3, 1, 0, 0), Way(1, 2, 0, 1, 0), Way(1, 2, 1, 2, 3)))


def recorder(words):
    """A program that writes down its words with the memory that it was given; the memory counts the words."""
    def program(memory, word):
        words.append((memory, word))
        return ((memory or 0) + 1, ("packet", *word[1:]) if word[0] == "tell" else None)
    return program


def walked(net, order, world, program, script, last):
    """A run from the words of [0.4]."""
    memories = {end: None for end in range(1, net.ends + 1)}
    sent, heard, asks, due = [], [], [], []
    for end in memories:
        memories[end], _ = program(None, ("begin", end))
    for beat in range(last + 1):
        for number, way in enumerate(net.ways):
            if is_turn(net, number, beat):
                memories[way.source], out = program(memories[way.source], ("tell", beat, number))
                sent.append((beat, number, out))
                due.append((beat + way.delay, number, heard_as(script, number, beat, out)))
        for row in sorted(due, key=lambda row: row[:2]):
            if row[0] == beat:
                goal = net.ways[row[1]].goal
                memories[goal], _ = program(memories[goal], ("heard", *row))
                heard.append(row)
        for end in memories:
            memories[end], out = program(memories[end], ("work", beat))
            while out is not None:
                value = world.answer(*out)
                asks.append((beat, end, *out, value))
                memories[end], out = program(memories[end], ("answer", *out, value))
    return Run(last, tuple(sent), tuple(heard), tuple(asks))


class Runs(Case):
    def test_result(self):
        self.assert_equals(lambda: Run(1, (2,), (3,), (4,)), [
            Run(0, (2,), (3,), (4,)), Run(1, (3,), (3,), (4,)), Run(1, (2,), (2,), (4,)), Run(1, (2,), (3,), ())])
        self.assertEqual(Run(asks=4, heard=3, sent=2, last=1), Run(1, 2, 3, 4))

    def test_order_of_words(self):
        words = []
        told = run(NET, ORDER, World(), recorder(words), (), 3)
        self.assertEqual(words, [
            (None, ("begin", 1)), (None, ("begin", 2)), (None, ("begin", 3)), (None, ("begin", 4)),
            (1, ("work", 0)), (1, ("work", 0)), (1, ("work", 0)), (1, ("work", 0)),
            (2, ("tell", 1, 0)), (2, ("tell", 1, 2)),
            (2, ("heard", 1, 0, ("packet", 1, 0))),
            (3, ("work", 1)), (3, ("work", 1)), (3, ("work", 1)), (2, ("work", 1)),
            (4, ("tell", 2, 1)),
            (5, ("work", 2)), (4, ("work", 2)), (4, ("work", 2)), (3, ("work", 2)),
            (5, ("tell", 3, 0)), (6, ("tell", 3, 2)),
            (5, ("heard", 3, 0, ("packet", 3, 0))), (6, ("heard", 3, 1, ("packet", 2, 1))), (7, ("heard", 3, 2, ("packet", 1, 2))),
            (7, ("work", 3)), (8, ("work", 3)), (6, ("work", 3)), (4, ("work", 3))])
        self.assertEqual(told.sent, tuple((beat, way, ("packet", beat, way)) for beat, way in ((1, 0), (1, 2), (2, 1), (3, 0), (3, 2))))
        self.assertEqual(told.heard, ((1, 0, ("packet", 1, 0)), (3, 0, ("packet", 3, 0)), (3, 1, ("packet", 2, 1)),
                                      (3, 2, ("packet", 1, 2))))
        self.assertEqual((told.last, told.asks), (3, ()))

    def test_asks(self):
        words = []

        def program(memory, word):
            words.append(word)
            if word[0] == "begin":
                return (word[1], 0)
            if word == ("work", 1):
                return (memory, {1: ("a", ()), 2: ("b", (5,)), 3: ("c", (7, -5))}.get(memory))
            if word == ("answer", "b", (5,), 11):
                return (memory, ("b", (6,)))
            return (memory, () if word[0] == "tell" else None)
        told = run(NET, ORDER, World([("a", (), 7)], 1, 2), program, (), 1)
        self.assert_same(told.asks, ((1, 1, "a", (), 7), (1, 2, "b", (5,), 11), (1, 2, "b", (6,), 13), (1, 3, "c", (7, -5), -5)))
        self.assertEqual(words[-8:], [("work", 1), ("answer", "a", (), 7), ("work", 1), ("answer", "b", (5,), 11),
                                      ("answer", "b", (6,), 13), ("work", 1), ("answer", "c", (7, -5), -5), ("work", 1)])

    def test_outs_that_are_not_looked_at(self):
        def program(memory, word):
            return (None, {"begin": ("x", 1), "heard": ("a", ()), "tell": False}.get(word[0]))
        told = run(NET, ORDER, World(), program, (), 4)
        self.assertEqual(told.asks, ())
        self.assertEqual({packet for _, _, packet in told.sent}, {False})

    def test_last_0(self):
        words = []
        told = run(NET, ORDER, World(), recorder(words), (), 0)
        self.assertEqual([word for _, word in words], [("begin", end) for end in range(1, 5)] + [("work", 0)] * 4)
        self.assertEqual(told, Run(0, (), (), ()))

    def test_bad_packets(self):
        script = [("lost", 0, 1), ("corrupted", 2, 1, ["x"]), ("corrupted", 1, 2, ("packet", 2, 1)), ("lost", 2, 3)]
        told = run(NET, ORDER, World(), recorder([]), script, 5)
        self.assertEqual(told.heard, (
            (1, 0, None), (3, 0, ("packet", 3, 0)), (3, 1, ("packet", 2, 1)), (3, 2, ["x"]), (5, 0, ("packet", 5, 0)),
            (5, 1, ("packet", 4, 1)), (5, 2, None)))
        # What was sent is told as it was.
        self.assertEqual([row for row in told.sent if row[0] == 1], [(1, 0, ("packet", 1, 0)), (1, 2, ("packet", 1, 2))])

    def test_bad_packets_behind_last_change_nothing(self):
        script = (("lost", 0, 3), ("corrupted", 2, 3, 5), ("lost", 0, 5), ("corrupted", 0, 1201, 5))
        words, others = [], []
        self.assertEqual(run(NET, ORDER, World(), recorder(words), script, 2), run(NET, ORDER, World(), recorder(others), (), 2))
        self.assertEqual(words, others)
        self.assertEqual(run(NET, ORDER, World(), recorder([]), script, 3).heard[1], (3, 0, None))

    def test_a_script_beyond_all_budgets_is_right(self):
        script = tuple(("lost", 0, beat) for beat in range(1, 80, 2))
        told = run(NET, ORDER, World(), recorder([]), script, 80)
        self.assertEqual([row[2] for row in told.heard if row[1] == 0], [None] * 40)

    def test_packets_are_passed_on_as_they_are(self):
        packet = [1, {"a": object()}]

        def program(memory, word):
            if word[0] == "heard":
                self.assertIs(word[3], packet)
            return (None, packet if word[0] == "tell" else None)
        told = run(NET, ORDER, World(), program, (), 5)
        self.assertTrue(all(row[2] is packet for row in told.sent + told.heard))

    def test_events_at_ends_that_the_net_does_not_have(self):
        order = Order([Event("a", 1, "query"), Event("z", 5, "query")])
        program = lister(lambda end, beat: [("a", ())] if end == 1 else [])
        self.assertEqual(len(run(NET, order, World(), program, (), 3).asks), 4)
        self.assert_raises(BadProgram(2, 0), run, NET, order, World(), lister(lambda end, beat: [("z", ())] * (end == 2)), (), 3)

    def test_against_a_walk(self):
        chance = random.Random(111)
        for at, plan in enumerate(chance_plans(112, 80, 6)):
            program = KINDS[at % len(KINDS)](plan)
            world = chance_world(chance)
            script = chance_script(chance, plan, 15)
            told = run(plan.net, plan.order, world, program, script, 12)
            self.assert_same(vars(told), vars(walked(plan.net, plan.order, world, program, script, 12)))
            self.assertEqual(told, run(plan.net, plan.order, world, program, list(script), 12))
            self.assert_same([type(thing) for thing in (told.sent, told.heard, told.asks)], [tuple] * 3)

    def test_delays_over_several_periods(self):
        net = Net(2, 1, (Way(1, 2, 0, 6, 0),))
        told = run(net, ORDER, World(), recorder([]), [("lost", 0, 2)], 8)
        self.assertEqual(told.heard, ((7, 0, ("packet", 1, 0)), (8, 0, None)))
        self.assertEqual(len(told.sent), 8)


class Refused(Case):
    def test_scripts_ahead_of_the_program(self):
        def program(memory, word):
            raise AssertionError
        for script, fault in ((None, ("script", None)), ({}, ("script", None)), ([None], ("packet", 0)),
                              ([("lost", 0, 1), ["lost", 0, 3]], ("packet", 1)), ([("lost", 3, 1)], ("way", 0)),
                              ([("lost", 0, 2)], ("turn", 0)), ([("lost", 0, 0)], ("turn", 0)),
                              ([("lost", 0, 3), ("lost", 0, 1)], ("order", 1)), ([("lost", 0, 1), ("lost", 0, 1)], ("order", 1)),
                              ([("corrupted", 0, 99, None)], ("packet", 0)), ([("lost", 0, 100)], ("turn", 0))):
            self.assert_raises(BadScript(*fault), run, NET, ORDER, World(), program, script, 3)

    def test_tell_none(self):
        for way, (end, beat) in ((0, (2, 1)), (1, (1, 2)), (2, (1, 1))):
            words = []

            def program(memory, word):
                words.append(word)
                return (None, None if word[0] != "tell" or word[2] == way else ())
            self.assert_raises(BadProgram(end, beat), run, NET, ORDER, World(), program, (), 5)
            self.assertEqual(words[-1], ("tell", beat, way))

    def test_tell_none_ahead_of_the_work_of_the_beat(self):
        def program(memory, word):
            if word[0] == "tell":
                return (None, None)
            return (None, "wrong" if word == ("work", 1) else None)
        self.assert_raises(BadProgram(2, 1), run, NET, ORDER, World(), program, (), 5)

    def test_wrong_asks(self):
        for out in (0, False, (), "a", ("a",), ("a", (), 0), ["a", ()], ("a", []), ("a", None), ("a", (1,)), ("x", ()), (None, ()),
                    (["a"], ()), ("b", (1,)), ("a", ""), (("a", ()),)):
            self.assert_raises(BadProgram(1, 0), run, NET, ORDER, World(), lister(lambda end, beat: [out]), (), 0)
        for out in (("c", (1,)), ("c", (1, 2, 3)), ("c", [1, 2]), ("c", (1, True)), ("c", (False, 1)), ("c", (1, None)),
                    ("c", (1, "2")), ("c", (1, 2.0)), ("c", (1, (2,))), ("a", ())):
            program = lister(lambda end, beat: [out] * (end == 3 and beat == 2))
            self.assert_raises(BadProgram(3, 2), run, NET, ORDER, World(), program, (), 3)

    def test_wrong_answers_out(self):
        program = lister(lambda end, beat: [("b", (1,)), ("b", (2,)), ("b", (True,))] * (end == 2 and beat == 1))
        self.assert_raises(BadProgram(2, 1), run, NET, ORDER, World(), program, (), 3)

    def test_the_2001st_ask(self):
        calls = []

        def asking(many, last=("a", ())):
            program = lister(lambda end, beat: [*[("a", ())] * many, last] * (end == 1 and beat == 1))

            def counting(memory, word):
                calls.append(word[0])
                return program(memory, word)
            return counting
        told = run(NET, ORDER, World(), asking(1999), (), 2)
        self.assertEqual(len(told.asks), 2000)
        for last in (("a", ()), ("x", ()), 0):
            calls.clear()
            self.assert_raises(BadProgram(1, 1), run, NET, ORDER, World(), asking(2000, last), (), 2)
            self.assertEqual(calls.count("answer"), 2000)

    def test_2000_asks_at_each_beat_and_end(self):
        program = lister(lambda end, beat: {1: [("a", ())], 2: [("b", (beat,))], 3: [("c", (0, 0))]}.get(end, []) * 2000)
        self.assertEqual(len(run(NET, ORDER, World(), program, (), 1).asks), 12000)

    def test_what_a_program_raises_goes_on(self):
        def program(memory, word):
            raise KeyError("own")
        with self.assertRaises(KeyError):
            run(NET, ORDER, World(), program, (), 0)

    def test_errors_in_the_order_of_the_run(self):
        def program(memory, word):
            if word[0] == "begin":
                return (word[1], None)
            if word[0] == "work" and memory == 3 and word[1] == 1:
                return (memory, "wrong")
            if word[0] == "tell" and word[1] == 2:
                return (memory, None)
            return (memory, () if word[0] == "tell" else None)
        self.assert_raises(BadProgram(3, 1), run, NET, ORDER, World(), program, (), 3)


class Views(Case):
    def test_view(self):
        heard = ((1, 0, "p"), (3, 0, None), (3, 1, "q"), (3, 2, "r"), (4, 1, "s"))
        asks = ((0, 1, "a", (), 1), (1, 2, "b", (1,), 2), (3, 2, "b", (2,), 3), (3, 3, "c", (0, 0), 0), (4, 2, "b", (3,), 4))
        told = Run(5, (), heard, asks)
        self.assertEqual(view(NET, told, 2, 3), (heard[2:4], asks[1:3]))
        self.assertEqual(view(NET, told, 2, 5), (heard[2:], (asks[1], asks[2], asks[4])))
        self.assertEqual(view(NET, told, 3, 2), (heard[:1], ()))
        self.assertEqual(view(NET, told, 3, 3), (heard[:2], asks[3:4]))
        self.assertEqual(view(NET, told, 1, 0), ((), asks[:1]))
        self.assertEqual(view(NET, told, 4, 5), ((), ()))
        self.assertEqual(view(NET, Run(0, (), (), ()), 1, 0), ((), ()))

    def test_same_views_make_same_packets(self):
        chance = random.Random(113)
        for at, plan in enumerate(chance_plans(114, 40, 6)):
            program = KINDS[at % len(KINDS)](plan)
            runs = [run(plan.net, plan.order, chance_world(chance), program, chance_script(chance, plan, 9), 9) for _ in range(3)]
            for one in runs:
                for other in runs:
                    self.check_same(plan, one, other)

    def check_same(self, plan, one, other):
        for end in range(1, plan.net.ends + 1):
            for beat in range(1, 10):
                if repr(view(plan.net, one, end, beat - 1)) == repr(view(plan.net, other, end, beat - 1)):
                    ways = plan.net.ways_from(end)
                    sent = [[row for row in told.sent if row[0] == beat and row[1] in ways] for told in (one, other)]
                    self.assertEqual(*sent)

    def test_silent_program(self):
        told = run(two_ends(), chain(1, 2), World(), silent(None), (), 2)
        self.assert_same(told.sent, ((1, 0, ()), (1, 1, ()), (2, 0, ()), (2, 1, ())))
        self.assert_same(told.asks, ())

    def test_teller(self):
        for plan in chance_plans(115, 1, 3):
            self.assertEqual(run(plan.net, plan.order, World(), teller(plan), (), 3),
                             run(plan.net, plan.order, World(), teller(plan), (), 3))


if __name__ == "__main__":
    unittest.main()
