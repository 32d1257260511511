"""[7.3], [7.4]"""

import itertools
import random
import unittest

from askedtrue.orders import Event, Order
from askedtrue.plays import play, play_keys
from askedtrue.worlds import true_run
from tests.chances import chance_copy, chance_world
from tests.helpers import Case, chance_order

ORDER = Order([Event("a", 1, "query"), Event("b", 2, "query", ("a",)), Event("c", 3, "action", ("b", "a")),
               Event("d", 1, "action", ("c",)), Event("e", 2, "query")])


def walked_keys(order, end, own, heard):
    """What play_keys should return, by way of every choice of copies."""
    others = [other for other in heard if other != end]
    found = {name: set() for name in order.of_end(end)}
    for choice in itertools.product(*[[(), *heard[other]] for other in others]):
        values = {name: value for name, _, value in play(order, {end: own, **dict(zip(others, choice))})}
        for name in found:
            if order.key_of(name, values) is not None:
                found[name].add(order.key_of(name, values))
    return tuple((name, key) for name in order.of_end(end) for key in sorted(found[name]))


class Plays(Case):
    def test_all_come_out(self):
        tables = {1: (("a", (), 5), ("d", (9,), 1)), 2: (("b", (5,), 7), ("e", (), 3)), 3: (("c", (7, 5), 9),)}
        self.assert_same(play(ORDER, tables), (
            ("a", (), 5), ("b", (5,), 7), ("c", (7, 5), 9), ("d", (9,), 1), ("e", (), 3)))

    def test_all_others_go_on(self):
        tables = {1: (("a", (), 5), ("d", (9,), 1)), 2: (("b", (4,), 7), ("e", (), 3)), 3: (("c", (7, 5), 9),)}
        self.assert_same(play(ORDER, tables), (("a", (), 5), ("e", (), 3)))
        self.assert_same(play(ORDER, {2: tables[2]}), (("e", (), 3),))

    def test_nothing(self):
        self.assert_same(play(ORDER, {}), ())
        self.assert_same(play(ORDER, {1: (), 2: (), 3: ()}), ())
        self.assert_same(play(Order(()), {1: ()}), ())

    def test_the_entry_with_the_key(self):
        tables = {1: (("a", (), 5),), 2: (("b", (-5,), 1), ("b", (5,), 2), ("b", (6,), 3))}
        self.assert_same(play(ORDER, tables), (("a", (), 5), ("b", (5,), 2)))

    def test_entries_of_a_world_are_its_true_run(self):
        chance = random.Random(71)
        for _ in range(100):
            order = chance_order(chance, 8, 4)
            world = chance_world(chance)
            right = true_run(order, world)
            told = {end: [] for end in range(1, 5)}
            for entry in right:
                told[order.event(entry[0]).end].append(entry)
            # What else the ends have asked is another key, as the world answers it.
            for end in told:
                for name, key, _ in chance_copy(chance, order, end):
                    if (name, key) not in [entry[:2] for entry in told[end]]:
                        told[end].append((name, key, world.answer(name, key)))
            tables = {end: tuple(sorted(rows)) for end, rows in told.items()}
            self.assert_same(play(order, tables), right)
            parts = {end: tuple(sorted(chance.sample(rows, chance.randint(0, len(rows))))) for end, rows in told.items()}
            self.assertLessEqual(set(play(order, parts)), set(right))

    def test_the_dict_is_not_changed(self):
        tables = {1: (("a", (), 5),)}
        play(ORDER, tables)
        self.assertEqual(tables, {1: (("a", (), 5),)})


class PlayKeys(Case):
    def test_an_event_without_needs(self):
        self.assert_same(play_keys(ORDER, 1, (), {}), (("a", ()),))
        self.assert_same(play_keys(ORDER, 2, (), {}), (("e", ()),))
        self.assert_same(play_keys(ORDER, 3, (), {}), ())
        self.assert_same(play_keys(ORDER, 4, (), {}), ())

    def test_keys_of_all_choices(self):
        heard = {1: [(("a", (), 5),), (("a", (), -2),), ()], 3: []}
        self.assert_same(play_keys(ORDER, 2, (), heard), (("b", (-2,)), ("b", (5,)), ("e", ())))

    def test_whether_or_not_own_has_an_entry(self):
        heard = {1: [(("a", (), 5),)]}
        self.assert_same(play_keys(ORDER, 2, (("b", (5,), 1), ("e", (), 1)), heard), (("b", (5,)), ("e", ())))

    def test_own_values_go_on(self):
        own = (("a", (), 5),)
        heard = {2: [(("b", (5,), 7),), (("b", (5,), 8),)], 3: [(("c", (7, 5), 1),), (("c", (8, 5), 2),), (("c", (9, 5), 3),)]}
        self.assert_same(play_keys(ORDER, 1, own, heard), (("a", ()), ("d", (1,)), ("d", (2,))))
        self.assert_same(play_keys(ORDER, 1, (), heard), (("a", ()),))

    def test_one_copy_of_an_end_in_each_choice(self):
        order = Order([Event("a", 1, "query"), Event("b", 1, "query"), Event("c", 2, "action", ("a", "b"))])
        heard = {1: ((("a", (), 1), ("b", (), 2)), (("a", (), 3), ("b", (), 4)))}
        self.assert_same(play_keys(order, 2, (), heard), (("c", (1, 2)), ("c", (3, 4))))

    def test_nothing_is_changed(self):
        heard = {1: [(("a", (), 5),), (("a", (), 5),)]}
        play_keys(ORDER, 2, (), heard)
        self.assertEqual(heard, {1: [(("a", (), 5),), (("a", (), 5),)]})

    def test_against_every_choice(self):
        chance = random.Random(72)
        for _ in range(250):
            ends = chance.randint(1, 4)
            order = chance_order(chance, chance.randint(0, 9), ends)
            end = chance.randint(1, ends)
            numbers = (0, 1) if chance.random() < 0.7 else (-1, 0, 1, 2)
            heard = {other: [chance_copy(chance, order, other, numbers) for _ in range(chance.randint(0, 4))]
                     for other in range(1, ends + 1) if other != end and chance.random() < 0.9}
            own = chance_copy(chance, order, end, numbers)
            self.assert_same(play_keys(order, end, own, heard), walked_keys(order, end, own, heard))

    def test_against_every_choice_at_the_greatest_size(self):
        chance = random.Random(73)
        for _ in range(5):
            order = chance_order(chance, 12, 4)
            heard = {}
            for other, many in ((2, 7), (3, 4), (4, 9)):
                heard[other] = [chance_copy(chance, order, other, (0, 1)) for _ in range(many)]
            own = chance_copy(chance, order, 1, (0, 1))
            self.assert_same(play_keys(order, 1, own, heard), walked_keys(order, 1, own, heard))


if __name__ == "__main__":
    unittest.main()
