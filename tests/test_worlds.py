"""[2.1] to [2.4]"""

import unittest

from askedtrue.errors import BadOrder, BadWorld
from askedtrue.orders import Event, Order
from askedtrue.worlds import World, false_ask, fresh_number, is_entry, true_beat, true_run
from tests.helpers import Case

ORDER = Order([Event("a", 1, "query"), Event("b", 2, "action", ("a",)), Event("c", 1, "query", ("b", "a")),
               Event("d", 2, "action", ("c",))])
WORLD = World([("a", (), 3), ("c", (10, 3), -1)], 4, 2)
BIG = 10 ** 299


class Entries(Case):
    def test_right(self):
        for thing in (("a", (), 0), ("a", (1, -2, BIG), -BIG), ["a", (1,), 2], ("a", [1], 2), ["a", [], 0]):
            self.assertIs(is_entry(thing), True, thing)

    def test_wrong(self):
        for thing in (None, "abc", 3, (), ("a", ()), ("a", (), 0, 0), ("A", (), 0), (1, (), 0), ("", (), 0),
                      ("a", None, 0), ("a", 1, 0), ("a", "", 0), ("a", (1, 2, 3, 4), 0), ("a", (True,), 0),
                      ("a", ("1",), 0), ("a", (None,), 0), ("a", ((),), 0), ("a", (), True), ("a", (), None),
                      ("a", (), "0"), ("a", (), (0,)), (["a"], (), 0), {}, {"a": 1, "b": 2, "c": 3}):
            self.assertIs(is_entry(thing), False, thing)


class Worlds(Case):
    def test_nothing_told(self):
        world = World()
        self.assert_same((world.told, world.base, world.factor), ((), 0, 0))
        self.assert_same(world.answer("a", (1, 2, 3)), 0)

    def test_answer(self):
        self.assert_same(WORLD.answer("a", ()), 3)
        self.assert_same(WORLD.answer("c", (10, 3)), -1)
        self.assert_same(WORLD.answer("c", (3, 10)), 4 + 2 * (3 + 20))
        self.assert_same(WORLD.answer("b", ()), 4)
        self.assert_same(WORLD.answer("a", (7,)), 4 + 2 * 7)
        self.assert_same(World((), 1, -3).answer("x", (1, 10, 100)), 1 - 3 * 321)
        self.assert_same(World((), BIG, BIG).answer("x", (BIG,)), BIG + BIG * BIG)

    def test_told_zero_is_told(self):
        self.assert_same(World([("a", (5,), 0)], 9, 9).answer("a", (5,)), 0)

    def test_told_is_ascending_and_of_tuples(self):
        world = World([["b", [2], 1], ("b", [], 2), ("a", (9,), 3), ["a", (-1, 4), 4], ("a", (-1,), 5)])
        self.assert_same(world.told, (("a", (-1,), 5), ("a", (-1, 4), 4), ("a", (9,), 3), ("b", (), 2), ("b", (2,), 1)))

    def test_lists_are_not_kept(self):
        key = [1]
        entry = ["a", key, 5]
        told = [entry]
        world = World(told)
        key.append(2)
        entry[2] = 6
        told.append(("b", (), 1))
        self.assert_same(world.told, (("a", (1,), 5),))
        self.assertEqual(world.answer("a", (1,)), 5)
        self.assertEqual(world.answer("b", ()), 0)

    def test_refused(self):
        for told in (None, "", 1, {}, ("a", (), 0), [("a", ())], [("A", (), 0)], [("a", (True,), 0)], [None],
                     [("a", (), 1), ("a", (), 2)], [("a", (1,), 1), ("b", (1,), 1), ["a", [1], 1]],
                     [("b", (), 1), ("a", (), "x")]):
            self.assert_raises(BadWorld("told"), World, told)
            self.assert_raises(BadWorld("told"), World, told, None, None)
        for number in (None, True, False, "1", 1.0, (1,)):
            self.assert_raises(BadWorld("base"), World, (), number, 0)
            self.assert_raises(BadWorld("base"), World, (), number, number)
            self.assert_raises(BadWorld("factor"), World, (), 0, number)

    def test_one_name_with_other_keys_is_right(self):
        self.assertEqual(len(World([("a", (), 1), ("a", (0,), 1), ("a", (0, 0), 1), ("b", (), 1)]).told), 4)

    def test_with_entry(self):
        world = World([("a", (1,), 2), ("a", (2,), 3)], 5, 6)
        self.assertEqual(world.with_entry("b", [1], 4), World([("a", (1,), 2), ("a", (2,), 3), ("b", (1,), 4)], 5, 6))
        self.assertEqual(world.with_entry("a", (1,), 4), World([("a", (1,), 4), ("a", (2,), 3)], 5, 6))
        self.assertEqual(world.with_entry("a", [2], 4).told, (("a", (1,), 2), ("a", (2,), 4)))
        self.assertEqual(world.with_entry("a", (), 4).told, (("a", (), 4), ("a", (1,), 2), ("a", (2,), 3)))
        self.assertEqual(world, World([("a", (1,), 2), ("a", (2,), 3)], 5, 6))

    def test_with_entry_does_not_keep_the_list(self):
        key = [1]
        world = World().with_entry("a", key, 5)
        key.append(2)
        self.assert_same(world.told, (("a", (1,), 5),))

    def test_with_entry_refuses(self):
        for entry in (("A", (), 0), ("a", None, 0), ("a", (True,), 0), ("a", (1, 2, 3, 4), 0), ("a", (), None)):
            self.assert_raises(BadWorld("told"), WORLD.with_entry, *entry)

    def test_equality(self):
        self.assert_equals(lambda: World([("a", (1,), 2)], 3, 4), [
            World([("a", (1,), 3)], 3, 4), World([("a", [1], 2)], 2, 4), World([("a", (1,), 2)], 3, 5), World((), 3, 4)])
        self.assertEqual(World([["b", [], 1], ("a", (), 1)]), World((("a", (), 1), ("b", (), 1))))
        # Both answer 0 to all asks.
        self.assertNotEqual(World([("a", (), 0)]), World())


class TrueRuns(Case):
    def test_true_run(self):
        self.assert_same(true_run(ORDER, WORLD), (("a", (), 3), ("b", (3,), 10), ("c", (10, 3), -1), ("d", (-1,), 2)))
        self.assert_same(true_run(ORDER, World()), (("a", (), 0), ("b", (0,), 0), ("c", (0, 0), 0), ("d", (0,), 0)))
        self.assert_same(true_run(Order(()), WORLD), ())

    def test_told_entries_that_never_come(self):
        world = World([("a", (1,), 7), ("x", (), 8), ("b", (9, 9), 9)])
        self.assertEqual(true_run(ORDER, world), true_run(ORDER, World()))

    def test_false_ask(self):
        right = [(0, 1, "a", (), 3), (1, 2, "b", (3,), 10), (2, 1, "c", (10, 3), -1), (3, 2, "d", (-1,), 2)]
        self.assertIsNone(false_ask(ORDER, WORLD, right))
        self.assertIsNone(false_ask(ORDER, WORLD, ()))
        self.assertIsNone(false_ask(ORDER, WORLD, tuple(right)))
        self.assertEqual(false_ask(ORDER, WORLD, [(0, 2, "b", (4,), 10), *right]), 0)
        self.assertEqual(false_ask(ORDER, WORLD, [*right, (4, 2, "d", (0,), 2)]), 4)

    def test_second_ask_of_an_action_is_false(self):
        twice = [(1, 2, "b", (3,), 10), (1, 2, "d", (-1,), 2), (9, 2, "b", (3,), 10), (9, 2, "d", (-1,), 2)]
        self.assertEqual(false_ask(ORDER, WORLD, twice), 2)

    def test_asks_of_queries_are_never_false(self):
        asks = [(0, 1, "a", (5,), 3), (0, 1, "a", (), 3), (1, 1, "a", (), 3), (1, 1, "c", (), 3), (2, 1, "c", (10, 3), 3)]
        self.assertIsNone(false_ask(ORDER, WORLD, asks))

    def test_end_and_value_are_not_looked_at(self):
        self.assertIsNone(false_ask(ORDER, WORLD, [(1, None, "b", (3,), None)]))
        self.assertEqual(true_beat(ORDER, WORLD, [(1, None, "b", (3,), None)], "b"), 1)

    def test_unknown_names_are_skipped(self):
        asks = [(0, 2, "x", (), 0), (0, 2, "x", (), 0), (1, 2, "b", (4,), 10)]
        self.assertEqual(false_ask(ORDER, WORLD, asks), 2)
        self.assertIsNone(true_beat(ORDER, WORLD, asks, "b"))

    def test_true_beat(self):
        asks = [(0, 1, "c", (1, 3), 0), (2, 1, "c", (10, 3), 0), (4, 1, "c", (10, 3), 0), (5, 1, "a", (), 3)]
        self.assertEqual(true_beat(ORDER, WORLD, asks, "c"), 2)
        self.assertEqual(true_beat(ORDER, WORLD, asks, "a"), 5)
        self.assertIsNone(true_beat(ORDER, WORLD, asks, "b"))
        self.assertIsNone(true_beat(ORDER, WORLD, (), "a"))
        self.assert_same(true_beat(ORDER, WORLD, [(0, 1, "a", (), 3)], "a"), 0)

    def test_true_beat_also_behind_a_false_ask(self):
        self.assertEqual(true_beat(ORDER, WORLD, [(1, 2, "b", (4,), 0), (2, 2, "b", (3,), 0)], "b"), 2)

    def test_true_beat_refuses(self):
        for name in ("x", None, 1, ["a"]):
            self.assert_raises(BadOrder("unknown", name), true_beat, ORDER, WORLD, (), name)

    def test_fresh_number(self):
        self.assert_same(fresh_number((), ()), 1)
        self.assert_same(fresh_number([World((), 99, 99)], []), 1)
        self.assert_same(fresh_number([World([("a", (), 0)])], []), 1)
        self.assert_same(fresh_number([World([("a", (), -7)]), World([("a", (), 5)])], ()), 8)
        self.assert_same(fresh_number([World([("a", (2, -9), 5)])], [(50, 60, "a", (), 3)]), 10)
        self.assert_same(fresh_number([World()], [(50, 60, "a", (3, -11), 3), (70, 1, "b", (), 2)]), 12)
        self.assert_same(fresh_number((World(),), ((50, 60, "a", (), -13),)), 14)
        self.assert_same(fresh_number([World([("a", (BIG,), 1)])], []), BIG + 1)

    def test_arguments_are_not_changed(self):
        asks = [(0, 1, "a", (), 3), (1, 2, "b", (3,), 10)]
        false_ask(ORDER, WORLD, asks)
        true_beat(ORDER, WORLD, asks, "a")
        fresh_number([WORLD], asks)
        self.assertEqual(asks, [(0, 1, "a", (), 3), (1, 2, "b", (3,), 10)])
        self.assertEqual(WORLD, World([("a", (), 3), ("c", (10, 3), -1)], 4, 2))


if __name__ == "__main__":
    unittest.main()
