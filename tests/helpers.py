"""What the tests have in common: asserts, small plans, and plans by chance."""

import inspect
import random
import unittest

from askedtrue.errors import AskedError
from askedtrue.lots import Budgets
from askedtrue.nets import Net, Way
from askedtrue.orders import Event, Order
from askedtrue.plans import Plan


class Case(unittest.TestCase):
    def assert_raises(self, error, call, *arguments):
        """The call raises an error of this very class with these very attributes."""
        with self.assertRaises(AskedError) as caught:
            result = call(*arguments)
            # A generator may raise as late as when its first thing is asked for.
            if inspect.isgenerator(result):
                next(result)
        self.assertIs(type(caught.exception), type(error))
        self.assertEqual(repr(vars(caught.exception)), repr(vars(error)))

    def assert_same(self, one, other):
        """Equal, of one kind throughout: no list in the place of a tuple, no True in that of 1."""
        self.assertEqual(one, other)
        self.assertEqual(repr(one), repr(other))

    def assert_equals(self, make, others):
        """Two new objects are equal, and unequal to all the others and to things of other kinds."""
        one, other = make(), make()
        self.assertIsNot(one, other)
        self.assertTrue(one == other)
        self.assertFalse(one != other)
        for unlike in [*others, None, 0, "", (), object()]:
            self.assertFalse(one == unlike, unlike)
            self.assertTrue(one != unlike, unlike)


def two_ends(period=1, delays=(0, 0), phases=(0, 0), lots=(0, 0)):
    """Two ends with one way each way."""
    return Net(2, period, (Way(1, 2, phases[0], delays[0], lots[0]), Way(2, 1, phases[1], delays[1], lots[1])))


def line(ends, period=1, delay=0, lots=(0,)):
    """Ends in a row, ways 2k and 2k + 1 between the ends k + 1 and k + 2."""
    ways = []
    for end in range(1, ends):
        for source, goal in ((end, end + 1), (end + 1, end)):
            number = len(ways)
            ways.append(Way(source, goal, number % period, delay, lots[number % len(lots)]))
    return Net(ends, period, ways)


def chain(*ends, kind="query"):
    """An order a, b, c, .. at these ends, each event with the one ahead of it as its need."""
    names = "abcdefghijkl"
    return Order([Event(names[at], end, kind, names[at - 1:at] if at else ()) for at, end in enumerate(ends)])


def chance_tree(chance, ends):
    """A tree of so many ends with any period, phases, delays and lots, its ways in any order."""
    period = chance.randint(1, 6)
    pairs = []
    for end in range(2, ends + 1):
        other = chance.randint(1, end - 1)
        pairs += [(end, other), (other, end)]
    chance.shuffle(pairs)
    ways = [Way(source, goal, chance.randrange(period), chance.choice((0, 0, 1, 2, 6)), chance.randint(0, 3))
            for source, goal in pairs]
    return Net(ends, period, ways)


def chance_order(chance, many, ends, needs=None):
    """An order of so many events at any of these ends, with up to three needs, or so many if told."""
    names = chance.sample([letter + figure for letter in "abcxyz" for figure in ("", "0", "9")], many)
    events = []
    for at, name in enumerate(names):
        wanted = min(at, chance.randint(0, 3) if needs is None else needs)
        events.append(Event(name, chance.randint(1, ends), chance.choice(("query", "action")),
                            chance.sample(names[:at], wanted)))
    return Order(events)


def chance_budgets(chance):
    """Budgets of four lots."""
    while True:
        pairs = [(chance.choice((0, 0, 1, 2)), chance.choice((0, 0, 1, 2))) for _ in range(4)]
        if sum(map(sum, pairs)) <= 8:
            return Budgets(pairs)


def chance_plans(seed, many, most=7, needs=None):
    """So many plans by chance, the same ones for the same seed."""
    chance = random.Random(seed)
    for _ in range(many):
        ends = chance.randint(1, 5)
        order = chance_order(chance, chance.randint(0, most) if needs is None else most, ends, needs)
        yield Plan(order, chance_tree(chance, ends), chance_budgets(chance))
