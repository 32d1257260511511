"""[7.1], [7.2]"""

import itertools
import random
import unittest

from askedtrue.orders import Event, Order
from askedtrue.tables import entry_value, is_copy, is_within, kept_copies, with_answer
from tests.helpers import Case, chance_order
from tests.chances import chance_copy

ORDER = Order([Event("a", 1, "query"), Event("b", 2, "query", ("a",)), Event("c", 2, "action", ("a",)),
               Event("d", 2, "query", ("a", "b", "c"))])
BIG = 10 ** 299
TABLE = (("b", (-1,), 4), ("b", (3,), 0), ("c", (7,), BIG), ("d", (1, 2, 3), -5))


class Copies(Case):
    def test_right(self):
        for thing in ((), TABLE, TABLE[:1], TABLE[1:], TABLE[2:3], (("b", (-BIG,), 0), ("b", (BIG,), 0))):
            self.assertIs(is_copy(ORDER, 2, thing), True, thing)
        self.assertIs(is_copy(ORDER, 1, (("a", (), 5),)), True)

    def test_nothing_is_a_copy_of_each_end(self):
        for end in (1, 2, 3, 5):
            self.assertIs(is_copy(ORDER, end, ()), True)
            self.assertIs(is_copy(Order(()), end, ()), True)

    def test_any_number_of_entries(self):
        rows = tuple(("b", (number,), 0) for number in range(3000))
        self.assertIs(is_copy(ORDER, 2, rows), True)
        self.assertIs(is_copy(ORDER, 2, rows + rows[-1:]), False)

    def test_wrong(self):
        for thing in (
                None, 0, True, "b", "", [], {}, list(TABLE), [()], (None,), (5,), ("b",), ((),), (("b",),), (("b", (1,)),),
                (("b", (1,), 2, 3),), (["b", (1,), 2],), (("b", [1], 2),), (("b", None, 2),), (("b", 1, 2),), (("b", "1", 2),),
                (("b", (), 2),), (("b", (1, 2), 2),), (("d", (1, 2), 2),), (("b", (True,), 2),), (("b", (None,), 2),),
                (("b", ("1",), 2),), (("b", (1.0,), 2),), (("b", ((1,),), 2),), (("b", (1,), None),), (("b", (1,), True),),
                (("b", (1,), False),), (("b", (1,), "2"),), (("b", (1,), (2,)),), (("b", (1,), 2.0),), (("a", (), 5),),
                (("x", (), 5),), ((None, (), 5),), ((["b"], (1,), 5),), ((2, (1,), 5),), ((("b",), (1,), 5),)):
            self.assertIs(is_copy(ORDER, 2, thing), False, thing)
            if isinstance(thing, tuple):
                self.assertIs(is_copy(ORDER, 2, TABLE[:2] + thing) and thing != (), False, thing)

    def test_ascending(self):
        for rows in itertools.permutations(TABLE):
            self.assertIs(is_copy(ORDER, 2, rows), rows == TABLE)

    def test_one_value_for_each_key(self):
        self.assertIs(is_copy(ORDER, 2, (("b", (1,), 2), ("b", (1,), 2))), False)
        self.assertIs(is_copy(ORDER, 2, (("b", (1,), 2), ("b", (1,), 3))), False)

    def test_one_entry_of_each_action(self):
        self.assertIs(is_copy(ORDER, 2, (("c", (1,), 2), ("c", (2,), 2))), False)
        self.assertIs(is_copy(ORDER, 2, (("b", (1,), 2), ("b", (2,), 2))), True)

    def test_of_the_end_alone(self):
        self.assertIs(is_copy(ORDER, 1, TABLE), False)
        self.assertIs(is_copy(ORDER, 3, TABLE), False)


class Entries(Case):
    def test_entry_value(self):
        self.assert_same(entry_value(TABLE, "b", (-1,)), 4)
        self.assert_same(entry_value(TABLE, "b", (3,)), 0)
        self.assert_same(entry_value(TABLE, "d", (1, 2, 3)), -5)
        for name, key in (("b", (4,)), ("b", ()), ("c", (3,)), ("d", (1, 2)), ("a", ())):
            self.assertIsNone(entry_value(TABLE, name, key))
        self.assertIsNone(entry_value((), "a", ()))

    def test_with_answer(self):
        self.assert_same(with_answer((), "a", (), 5), (("a", (), 5),))
        self.assert_same(with_answer(TABLE, "b", (2,), 9), (TABLE[0], ("b", (2,), 9), *TABLE[1:]))
        self.assert_same(with_answer(TABLE, "d", (1, 2, 4), 9), (*TABLE, ("d", (1, 2, 4), 9)))
        self.assert_same(with_answer(TABLE, "a", (), 9), (("a", (), 9), *TABLE))

    def test_with_answer_that_stands(self):
        self.assert_same(with_answer(TABLE, "b", (3,), 0), TABLE)
        self.assert_same(with_answer(TABLE, "b", (3,), 1), TABLE)

    def test_with_answer_against_a_dict(self):
        chance = random.Random(61)
        for _ in range(100):
            table, told = (), {}
            for _ in range(10):
                name, key, value = chance.choice("bd"), (chance.randint(-2, 2),), chance.randint(0, 9)
                told.setdefault((name, key), value)
                table = with_answer(table, name, key, value)
            self.assert_same(table, tuple(sorted((name, key, value) for (name, key), value in told.items())))


class Within(Case):
    def test_is_within(self):
        for one, other, right in (
                ((), (), True), ((), TABLE, True), (TABLE, (), False), (TABLE, TABLE, True), (TABLE[1:3], TABLE, True),
                (TABLE[::3], TABLE, True), (TABLE, TABLE[:3], False), ((("b", (3,), 1),), TABLE, False),
                ((("b", (4,), 0),), TABLE, False), ((TABLE[0], ("b", (3,), 1)), TABLE, False)):
            self.assertIs(is_within(one, other), right)

    def test_kept_copies(self):
        one, two, three = TABLE[:2], TABLE[1:], TABLE[1:2]
        self.assert_same(kept_copies(()), ())
        self.assert_same(kept_copies([]), ())
        self.assert_same(kept_copies([()]), ((),))
        self.assert_same(kept_copies([(), ()]), ((),))
        self.assert_same(kept_copies([(), three]), (three,))
        self.assert_same(kept_copies([one, two, three]), (one, two))
        self.assert_same(kept_copies((three, two, (), one, two, one)), (two, one))
        self.assert_same(kept_copies([one, two, TABLE, three]), (TABLE,))
        self.assert_same(kept_copies([TABLE, one, TABLE, two]), (TABLE,))

    def test_kept_copies_against_their_words(self):
        chance = random.Random(62)
        for _ in range(200):
            order = chance_order(chance, 5, 2)
            copies = [chance_copy(chance, order, 1, (0, 1)) for _ in range(chance.randint(0, 8))]
            kept = kept_copies(copies)
            right = []
            for copy in copies:
                if copy not in right and not any(set(copy) < set(other) for other in copies):
                    right.append(copy)
            self.assert_same(kept, tuple(right))


if __name__ == "__main__":
    unittest.main()
