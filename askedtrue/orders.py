"""Events and orders of events, and the kinds of things that all files ask for."""

from askedtrue.errors import BadOrder

LETTERS = "abcdefghijklmnopqrstuvwxyz"
SIGNS = "abcdefghijklmnopqrstuvwxyz0123456789"
KINDS = ("query", "action")
LONGEST_NAME = 8
MOST_EVENTS = 12
MOST_NEEDS = 3
LAST_END = 5


def is_whole(thing):
    """Whether the thing is a whole number: True and False are none."""
    return isinstance(thing, int) and not isinstance(thing, bool)


def is_between(thing, least, most):
    """Whether the thing is a whole number from least to most."""
    return is_whole(thing) and least <= thing <= most


def is_count(thing):
    """Whether the thing is a whole number of 0 or more."""
    return is_whole(thing) and thing >= 0


def is_sequence(thing):
    """Whether the thing is a list or a tuple."""
    return isinstance(thing, (list, tuple))


def is_name(thing):
    """Whether the thing can be the name of an event."""
    if not isinstance(thing, str) or not 1 <= len(thing) <= LONGEST_NAME:
        return False
    return thing[0] in LETTERS and all([sign in SIGNS for sign in thing])


class Event:
    """What takes place at one end and needs the values of elder events; nothing is checked."""

    def __init__(self, name, end, kind, needs=()):
        self.name = name
        self.end = end
        self.kind = kind
        self.needs = tuple(needs)

    def __eq__(self, other):
        return (isinstance(other, Event) and self.name == other.name and self.end == other.end
                and self.kind == other.kind and self.needs == other.needs)


class Order:
    """A sequence of events in which each event comes behind its needs."""

    def __init__(self, events):
        self.events = tuple(events)
        if len(self.events) > MOST_EVENTS:
            raise BadOrder("many", None)
        elder = []
        for event in self.events:
            word = event_fault(event, elder)
            if word is not None:
                raise BadOrder(word, event.name)
            elder.append(event.name)
        self._names = tuple(elder)

    def __eq__(self, other):
        return isinstance(other, Order) and self.events == other.events

    def __iter__(self):
        return iter(self.events)

    def __len__(self):
        return len(self.events)

    @property
    def names(self):
        """The names of all events, in order."""
        return self._names

    def place(self, name):
        """The number of the event in the order, from 0."""
        for place, event in enumerate(self.events):
            if event.name == name:
                return place
        raise BadOrder("unknown", name)

    def event(self, name):
        """The event of this name."""
        return self.events[self.place(name)]

    def of_end(self, end):
        """The names of the events at an end, in order."""
        return tuple([event.name for event in self.events if event.end == end])

    def foreign(self, name):
        """The needs of the event that stand at other ends, in the order of its needs."""
        event = self.event(name)
        return tuple([need for need in event.needs if self.event(need).end != event.end])

    def behind(self, name):
        """The names of all events that need the event, straight or through others, in order."""
        found = [self.event(name).name]
        for event in self.events:
            if any([need in found for need in event.needs]):
                found.append(event.name)
        return tuple(found[1:])

    def loose(self, name):
        """The loose forebears of the event, in order."""
        found = list(self.event(name).needs)
        # Backwards, each query is met when all that could make it a loose forebear has been.
        for event in reversed(self.events):
            if event.kind == "query" and event.name in found:
                found.extend(event.needs)
        return self._in_order(found)

    def sources(self, name):
        """The needs of a query, or the loose forebears of an action, in order."""
        event = self.event(name)
        if event.kind == "query":
            return self._in_order(event.needs)
        return self.loose(name)

    def as_kind(self, name, kind):
        """The order in which this event has that kind."""
        place = self.place(name)
        if kind not in KINDS:
            raise BadOrder("kind", name)
        old = self.events[place]
        changed = Event(old.name, old.end, kind, old.needs)
        return Order(self.events[:place] + (changed,) + self.events[place + 1:])

    def key_of(self, name, values):
        """The key of the event by the values of its needs, or None if one is lacking."""
        needs = self.event(name).needs
        if not all([need in values for need in needs]):
            return None
        return tuple([values[need] for need in needs])

    def _in_order(self, names):
        return tuple([name for name in self._names if name in names])


def event_fault(event, elder):
    """The first word that tells why the event cannot come behind events of the elder names."""
    if not is_name(event.name):
        return "name"
    if event.name in elder:
        return "twice"
    if not is_between(event.end, 1, LAST_END):
        return "end"
    if event.kind not in KINDS:
        return "kind"
    if not are_needs(event.needs, elder):
        return "needs"
    return None


def are_needs(needs, elder):
    """Whether these are at most three unlike names of elder events."""
    if len(needs) > MOST_NEEDS:
        return False
    return all([need in elder and needs.count(need) == 1 for need in needs])
