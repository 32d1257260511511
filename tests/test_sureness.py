"""[8.1], [8.2], [8.3]"""

import itertools
import random
import unittest

from askedtrue.orders import Event, Order
from askedtrue.sureness import sure_entry, sure_values, told_counts
from tests.chances import chance_copy
from tests.helpers import Case, chance_order

A1, A2, A3 = ("a", (), 1), ("a", (), 2), ("a", (), 3)
ORDER = Order([Event("a", 1, "query"), Event("b", 2, "query", ("a",)), Event("c", 2, "action", ("a",)),
               Event("d", 1, "action", ("b", "c")), Event("e", 2, "query", ("d",))])


def walked_values(order, end, table, heard, could):
    """What sure_values should return, from the words of [8.3]."""
    values = {}
    for event in order.events:
        needs_sure = all(need in values for need in event.needs)
        key = tuple(values[need] for need in event.needs) if needs_sure else None
        if event.kind == "query" and not needs_sure:
            continue
        wanted = None if event.kind == "action" else key
        if event.end == end:
            found = [value for name, other, value in table if name == event.name and wanted in (None, other)]
            if found:
                values[event.name] = found[0]
        else:
            sure = sure_entry(told_counts(heard.get(event.end, ()), event.name, wanted), could.get(event.end, 0))
            if sure is not None:
                values[event.name] = sure[2]
    return values


class ToldCounts(Case):
    COPIES = [(("b", (1,), 5), ("b", (2,), 6)), (), (("b", (1,), 5),), (("b", (1,), 4), ("c", (0,), 1)), (("b", (1,), 5),)]

    def test_all_keys(self):
        right = ((("b", (1,), 4), 1), (("b", (1,), 5), 3), (("b", (2,), 6), 1))
        self.assert_same(told_counts(self.COPIES, "b"), right)
        self.assert_same(told_counts(tuple(self.COPIES), "b", None), right)
        self.assert_same(told_counts(self.COPIES, "c"), ((("c", (0,), 1), 1),))

    def test_with_a_key(self):
        self.assert_same(told_counts(self.COPIES, "b", (1,)), ((("b", (1,), 4), 1), (("b", (1,), 5), 3)))
        self.assert_same(told_counts(self.COPIES, "b", (2,)), ((("b", (2,), 6), 1),))
        self.assert_same(told_counts(self.COPIES, "b", (3,)), ())
        self.assert_same(told_counts(self.COPIES, "b", ()), ())
        self.assert_same(told_counts([(A1,), (A1,)], "a", ()), ((A1, 2),))

    def test_none(self):
        self.assert_same(told_counts((), "b"), ())
        self.assert_same(told_counts([()], "b"), ())
        self.assert_same(told_counts(self.COPIES, "a"), ())


class SureEntry(Case):
    def test_by_hand(self):
        for counts, could, right in (
                ((), 0, None), (((A1, 1),), 0, A1), (((A1, 1),), 1, None), (((A1, 2),), 1, A1), (((A1, 3),), 3, None),
                (((A1, 1), (A2, 1)), 0, None), (((A1, 1), (A2, 1)), 1, None), (((A1, 1), (A2, 2)), 1, A2),
                (((A1, 2), (A2, 1)), 1, A1), (((A1, 3), (A2, 1)), 2, A1), (((A1, 3), (A2, 1)), 0, None),
                (((A1, 3), (A2, 1)), 3, None), (((A1, 2), (A2, 2)), 1, None), (((A1, 2), (A2, 2)), 2, None),
                (((A1, 3), (A2, 1), (A3, 1)), 2, A1), (((A1, 3), (A2, 1), (A3, 1)), 3, A1),
                (((A1, 3), (A2, 1), (A3, 1)), 4, None)):
            self.assert_same(sure_entry(counts, could), right)
            self.assert_same(sure_entry(list(reversed(counts)), could), right)

    def test_its_words(self):
        chance = random.Random(81)
        for _ in range(500):
            counts = [(("a", (), value), chance.randint(1, 5)) for value in range(chance.randint(0, 4))]
            could = chance.randint(0, 8)
            total = sum(number for _, number in counts)
            fits = [entry for entry, _ in counts
                    if total - max([number for other, number in counts if other != entry], default=0) > could]
            self.assert_same(sure_entry(counts, could), fits[0] if len(fits) == 1 else None)

    def test_by_all_ways_of_calling_copies_false(self):
        # Where at most so many copies are false, the sure entry is the only one that all true copies can tell.
        for numbers in itertools.product(range(1, 5), repeat=2):
            for could in range(8):
                counts = [(A1, numbers[0]), (A2, numbers[1])]
                self.check_ways(counts, could)
        for numbers in itertools.product(range(1, 4), repeat=3):
            for could in range(9):
                self.check_ways(list(zip((A1, A2, A3), numbers)), could)
        for number in range(1, 6):
            for could in range(7):
                self.check_ways([(A1, number)], could)

    def check_ways(self, counts, could):
        copies = [entry for entry, number in counts for _ in range(number)]
        sure = sure_entry(counts, could)
        possible = set()
        for size in range(min(could, len(copies)) + 1):
            for called in itertools.combinations(range(len(copies)), size):
                left = {copy for at, copy in enumerate(copies) if at not in called}
                # True copies of one end all tell the true entry; if none is left, the true one may be untold.
                if len(left) <= 1:
                    possible |= left or {("a", (), "untold")}
        if sure is not None and possible:
            self.assertEqual(possible, {sure}, (counts, could))
        if len(possible) == 1 and ("a", (), "untold") not in possible:
            self.assertEqual(sure, possible.pop(), (counts, could))
        if len(possible) > 1:
            self.assertIsNone(sure, (counts, could))


class SureValues(Case):
    def test_own_events(self):
        table = (("a", (), 4), ("d", (8, 9), 6))
        self.assert_same(sure_values(ORDER, 1, table, {}, {}), {"a": 4, "d": 6})
        self.assert_same(sure_values(ORDER, 1, table[1:], {2: []}, {2: 5}), {"d": 6})

    def test_a_query_with_the_key_of_sure_values(self):
        heard = {1: [(("a", (), 4),)]}
        table = (("b", (3,), 1), ("b", (4,), 2), ("c", (9,), 3))
        self.assert_same(sure_values(ORDER, 2, table, heard, {1: 0}), {"a": 4, "b": 2, "c": 3})
        self.assert_same(sure_values(ORDER, 2, table, heard, {1: 1}), {"c": 3})

    def test_others(self):
        table = (("a", (), 4),)
        heard = {2: [(("b", (4,), 1), ("c", (4,), 2)), (("b", (3,), 9), ("b", (4,), 1), ("c", (3,), 2))]}
        self.assert_same(sure_values(ORDER, 1, table, heard, {2: 0}), {"a": 4, "b": 1})
        self.assert_same(sure_values(ORDER, 1, table, heard, {2: 1}), {"a": 4, "b": 1})
        self.assert_same(sure_values(ORDER, 1, table, {2: [*heard[2], heard[2][0]]}, {2: 1}), {"a": 4, "b": 1, "c": 2})
        self.assert_same(sure_values(ORDER, 1, (), heard, {2: 0}), {})

    def test_an_action_does_not_ask_for_its_needs(self):
        heard = {2: [(("c", (5,), 2),)]}
        self.assert_same(sure_values(ORDER, 1, (), heard, {2: 0}), {"c": 2})
        self.assert_same(sure_values(ORDER, 3, (), {1: [(("d", (0, 0), 7),)], 2: ((("e", (7,), 8),),)}, {1: 0, 2: 0}),
                         {"d": 7, "e": 8})

    def test_in_order(self):
        heard = {2: [(("b", (4,), 1), ("c", (4,), 2), ("e", (6,), 0))]}
        values = sure_values(ORDER, 1, (("a", (), 4), ("d", (1, 2), 6)), heard, {2: 0, 3: 9})
        self.assert_same(list(values.items()), [("a", 4), ("b", 1), ("c", 2), ("d", 6), ("e", 0)])

    def test_nothing(self):
        self.assert_same(sure_values(ORDER, 1, (), {}, {}), {})
        self.assert_same(sure_values(Order(()), 1, (), {2: [()]}, {2: 0}), {})

    def test_nothing_is_changed(self):
        heard, could = {2: [(("b", (4,), 1),)]}, {2: 0}
        sure_values(ORDER, 1, (("a", (), 4),), heard, could)
        self.assertEqual((heard, could), ({2: [(("b", (4,), 1),)]}, {2: 0}))

    def test_against_their_words(self):
        chance = random.Random(82)
        for _ in range(400):
            ends = chance.randint(1, 4)
            order = chance_order(chance, chance.randint(0, 8), ends)
            end = chance.randint(1, ends)
            table = chance_copy(chance, order, end, (0, 1))
            heard, could = {}, {}
            for other in range(1, ends + 1):
                if other != end and chance.random() < 0.9:
                    kinds = [chance_copy(chance, order, other, (0, 1)) for _ in range(2)]
                    heard[other] = [chance.choice((kinds[0], kinds[0], kinds[1])) for _ in range(chance.randint(0, 5))]
                    could[other] = chance.randint(0, 2)
            right = walked_values(order, end, table, heard, could)
            self.assert_same(list(sure_values(order, end, table, heard, could).items()), list(right.items()))


if __name__ == "__main__":
    unittest.main()
