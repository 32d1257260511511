"""What is heard on one way under a weather, what of it is sure, and receivers of it."""

from askedtrue.orders import is_whole


class Guess:
    """The states of the weather that can be reached, by what the sender can have told so far.

    untold are those in which nothing is told yet, told those of values that were heard, by value. A value
    that is none of these, whether heard or not, has the states other.
    """

    def __init__(self, weather, untold, other, told):
        self.weather = weather
        self.untold = untold
        self.other = other
        self.told = told

    def go_on(self, thing):
        """The Guess behind the turn at which this was heard."""
        # A value may be told at this very turn, so its states go on from those of nothing told, too.
        other = self._led((*self.untold, *self.other), marks_of(thing, False))
        told = {}
        for value in [*self.told, *values_of(thing)]:
            states = (*self.untold, *self.told.get(value, self.other))
            states = self._led(states, marks_of(thing, value in values_of(thing)))
            if states != other:
                told[value] = states
        return Guess(self.weather, self._led(self.untold, marks_of(thing, is_empty(thing))), other, told)

    def _led(self, states, marks):
        return tuple(sorted({goal for mark in marks for goal in self.weather.after(states, mark)}))


def is_empty(thing):
    """Whether the thing is the packet of a sender that has not told yet."""
    return isinstance(thing, tuple) and len(thing) == 0


def values_of(thing):
    """The value of a packet that tells one, alone in a tuple; none otherwise."""
    if isinstance(thing, tuple) and len(thing) == 1 and is_whole(thing[0]):
        return thing
    return ()


def marks_of(thing, is_sent):
    """The marks that a turn can have at which this is heard, by whether it is what was sent."""
    if thing is None:
        return ("lost",)
    return ("clean", "corrupted") if is_sent else ("corrupted",)


class Watcher:
    """What can be told and what is sure by all that was heard under a weather."""

    def __init__(self, weather, heard=()):
        self.weather = weather
        self.heard = tuple(heard)
        guess = Guess(weather, (0,), (), {})
        for thing in self.heard:
            guess = guess.go_on(thing)
        self._guess = guess

    def __eq__(self, other):
        return isinstance(other, Watcher) and self.weather == other.weather and self.heard == other.heard

    def hear(self, packet):
        """The Watcher that has heard this, too."""
        other = Watcher(self.weather)
        other.heard = (*self.heard, packet)
        other._guess = self._guess.go_on(packet)
        return other

    def sure_value(self):
        """The value that is sure, or None."""
        if self.may_be_untold():
            return None
        values = self.possible_values()
        return values[0] if len(values) == 1 else None

    def may_be_untold(self):
        """Whether a telling fits that is not told yet."""
        return self._guess.untold != ()

    def fits(self):
        """Whether any telling fits."""
        # Where a value that was not heard can be told, no packet is clean since, so that nothing need be told.
        return self.may_be_untold() or self.possible_values() != ()

    def possible_values(self):
        """The values heard that can have been told already, ascending."""
        told = self._guess.told
        if not self._guess.other:
            return tuple(sorted([value for value, states in told.items() if states]))
        return tuple(sorted({value for thing in self.heard for value in values_of(thing)}))


def listen(receiver, heard):
    """All asks of a receiver that hears these things, as pairs (turn, value)."""
    memory = None
    pairs = []
    for turn, thing in enumerate(heard):
        memory, asks = receiver(memory, thing)
        pairs.extend([(turn, value) for value in asks])
    return tuple(pairs)


def watching(weather):
    """A receiver that asks the sure value once, as soon as there is one."""
    def receiver(memory, packet):
        if memory == "asked":
            return (memory, ())
        watcher = Watcher(weather) if memory is None else memory
        watcher = watcher.hear(packet)
        value = watcher.sure_value()
        if value is None:
            return (watcher, ())
        return ("asked", (value,))
    return receiver


def asking():
    """A receiver that asks each whole number when it hears a packet of it for the first time."""
    def receiver(memory, packet):
        asked = () if memory is None else memory
        new = tuple([value for value in values_of(packet) if value not in asked])
        return ((*asked, *new), new)
    return receiver
