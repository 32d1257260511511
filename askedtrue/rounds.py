"""Orders of events without an end: rounds that all have the same events."""

from askedtrue.errors import BadRounds
from askedtrue.orders import KINDS, LAST_END, LETTERS, MOST_NEEDS, Event, Order, is_between, is_sequence

MOST_IN_ROUND = 6
LONGEST_ROUND_NAME = 6
LAST_ROUND = 99


class RoundEvent:
    """An event that comes once in every round; nothing is checked."""

    def __init__(self, name, end, kind, needs=()):
        self.name = name
        self.end = end
        self.kind = kind
        self.needs = needs

    def __eq__(self, other):
        return (isinstance(other, RoundEvent) and self.name == other.name and self.end == other.end
                and self.kind == other.kind and self.needs == other.needs)


class Rounds:
    """An order without an end: in each round every one of these events."""

    def __init__(self, events):
        self.events = tuple(events)
        if len(self.events) > MOST_IN_ROUND:
            raise BadRounds("many", None)
        names = [event.name for event in self.events]
        for at, event in enumerate(self.events):
            word = round_event_fault(event, names[:at], names)
            if word is not None:
                raise BadRounds(word, event.name)
        self._names = tuple(names)
        self._needs = {event.name: tuple([tuple(need) for need in event.needs]) for event in self.events}

    def __eq__(self, other):
        return isinstance(other, Rounds) and self.events == other.events

    def __iter__(self):
        return iter(self.events)

    def __len__(self):
        return len(self.events)

    @property
    def names(self):
        """The names of the events of a round, in order."""
        return self._names

    def event(self, name):
        """The event of this name."""
        for event in self.events:
            if event.name == name:
                return event
        raise BadRounds("unknown", name)

    def in_round(self, name, number):
        """The name of the event in this round."""
        self.event(name)
        if not is_between(number, 0, LAST_ROUND):
            raise BadRounds("round", None)
        return f"{name}{number}"

    def unrolled(self, many):
        """The order of the first rounds."""
        if not is_between(many, 0, LAST_ROUND + 1):
            raise BadRounds("many", None)
        return Order([self._in_round(event, number) for number in range(many) for event in self.events])

    def sources(self, name):
        """The events from which a path goes on to the event, each with its least lag, in order."""
        event = self.event(name)
        lags = with_needs({}, self._needs[name], 0)
        # A loose forebear of an action is reached through queries, each of them once at most.
        for query in list(self.events) * len(self.events):
            if event.kind == "action" and query.kind == "query" and query.name in lags:
                lags = with_needs(lags, self._needs[query.name], lags[query.name])
        return tuple([(other, lags[other]) for other in self._names if other in lags])

    def _in_round(self, event, number):
        needs = [self.in_round(name, number - lag) for name, lag in self._needs[event.name] if lag <= number]
        return Event(self.in_round(event.name, number), event.end, event.kind, needs)


def with_needs(lags, needs, start):
    """The least lags, by name, if also these needs of an event that lies so many rounds back are among them."""
    found = {name: lag for name, lag in lags.items()}
    for name, lag in needs:
        found[name] = min(start + lag, found.get(name, start + lag))
    return found


def round_event_fault(event, elder, names):
    """The first word that tells why the event cannot come behind the elder names in rounds of these names."""
    if not is_round_name(event.name):
        return "name"
    if event.name in elder:
        return "twice"
    if not is_between(event.end, 1, LAST_END):
        return "end"
    if event.kind not in KINDS:
        return "kind"
    if not are_round_needs(event.needs, elder, names):
        return "needs"
    return None


def is_round_name(thing):
    """Whether the thing can be the name of an event of a round."""
    if not isinstance(thing, str) or not 1 <= len(thing) <= LONGEST_ROUND_NAME:
        return False
    return all([sign in LETTERS for sign in thing])


def are_round_needs(thing, elder, names):
    """Whether the thing is a sequence of at most three unlike needs that an event behind the elder names can have."""
    if not is_sequence(thing) or len(thing) > MOST_NEEDS:
        return False
    if not all([is_round_need(need, elder, names) for need in thing]):
        return False
    needs = [tuple(need) for need in thing]
    return all([needs.count(need) == 1 for need in needs])


def is_round_need(thing, elder, names):
    """Whether the thing is a pair of a name and a lag that leads back to an event ahead."""
    if not is_sequence(thing) or len(thing) != 2 or not is_between(thing[1], 0, 1):
        return False
    return thing[0] in (elder if thing[1] == 0 else names)
