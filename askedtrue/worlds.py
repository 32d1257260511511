"""Worlds, true runs, and what of the asks is false or true in them."""

from askedtrue.errors import BadWorld
from askedtrue.orders import is_name, is_sequence, is_whole

LONGEST_KEY = 3


def is_entry(thing):
    """Whether the thing is an entry (name, key, value); lists are let."""
    if not is_sequence(thing) or len(thing) != 3:
        return False
    name, key, value = thing
    return is_name(name) and is_key(key) and is_whole(value)


def is_key(thing):
    """Whether the thing can be the key of an entry; a list is let."""
    if not is_sequence(thing) or len(thing) > LONGEST_KEY:
        return False
    return all([is_whole(number) for number in thing])


class World:
    """What answers every ask: told entries, and base + factor * s for all others."""

    def __init__(self, told=(), base=0, factor=0):
        if not is_sequence(told) or not all([is_entry(thing) for thing in told]):
            raise BadWorld("told")
        self.told = tuple(sorted([(name, tuple(key), value) for name, key, value in told]))
        self._values = {(name, key): value for name, key, value in self.told}
        if len(self._values) < len(self.told):
            raise BadWorld("told")
        if not is_whole(base):
            raise BadWorld("base")
        if not is_whole(factor):
            raise BadWorld("factor")
        self.base = base
        self.factor = factor

    def __eq__(self, other):
        return (isinstance(other, World) and self.told == other.told and self.base == other.base
                and self.factor == other.factor)

    def answer(self, name, key):
        """The value of the event of this name with this key."""
        value = self._values.get((name, tuple(key)))
        if value is not None:
            return value
        return self.base + self.factor * sum([(place + 1) * number for place, number in enumerate(key)])

    def with_entry(self, name, key, value):
        """The world in which this entry is told, in the place of one with its name and key."""
        if not is_entry((name, key, value)):
            raise BadWorld("told")
        entry = (name, tuple(key), value)
        others = [other for other in self.told if other[:2] != entry[:2]]
        return World([*others, entry], self.base, self.factor)


def true_run(order, world):
    """The entries of all events, in order, with their true keys."""
    values = {}
    entries = []
    for event in order:
        key = order.key_of(event.name, values)
        values[event.name] = world.answer(event.name, key)
        entries.append((event.name, key, values[event.name]))
    return tuple(entries)


def false_ask(order, world, asks):
    """The place of the first false ask of an action, or None."""
    run = true_run(order, world)
    asked = []
    for at, ask in enumerate(asks):
        name, key = ask[2:4]
        if name not in order.names or order.event(name).kind == "query":
            continue
        if name in asked or key != run[order.place(name)][1]:
            return at
        asked.append(name)
    return None


def true_beat(order, world, asks, name):
    """The beat of the first ask of the event with its true key, or None."""
    place = order.place(name)
    key = true_run(order, world)[place][1]
    for ask in asks:
        if ask[2] == name and ask[3] == key:
            return ask[0]
    return None


def fresh_number(worlds, asks):
    """A number above all absolute values in told entries and asks."""
    numbers = [0]
    for world in worlds:
        for _, key, value in world.told:
            numbers.extend([*key, value])
    for ask in asks:
        numbers.extend([*ask[3], ask[4]])
    return 1 + max([abs(number) for number in numbers])
