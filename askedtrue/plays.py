"""Plays: what comes out if tables of the ends are held against one another."""

from askedtrue.tables import entry_value, kept_copies


def play(order, tables):
    """The entries of all events whose value comes out of one table of each end."""
    values = {}
    entries = []
    for event in order:
        key = order.key_of(event.name, values)
        if key is None:
            continue
        value = entry_value(tables.get(event.end, ()), event.name, key)
        if value is not None:
            values[event.name] = value
            entries.append((event.name, key, value))
    return tuple(entries)


def play_keys(order, end, own, heard):
    """The keys of events of the end that come out with one copy, or none, of each other end."""
    answers = {other: [answers_of(copy) for copy in kept_copies(copies)] for other, copies in heard.items()}
    keys = keys_out(order, end, answers_of(own), answers)
    return tuple([(name, key) for name in order.of_end(end) for key in sorted(keys[name])])


def answers_of(copy):
    """The values of a copy by name and key."""
    return {(name, key): value for name, key, value in copy}


def keys_out(order, end, own, answers):
    """For each event of the end a dict of all keys that come out in some choice of answers.

    Instead of each choice it goes through all that comes out of choices: a dict of values, and the
    answers of each other end from which these values come. So what is not told apart is played once.
    """
    keys = {name: {} for name in order.of_end(end)}
    # The empty answers are those of the choice of no copy; of the own end there is one choice.
    choices = {other: [{}, *told] for other, told in answers.items()}
    plays = [({}, {**choices, end: [own]})]
    for event in needed_events(order, end):
        keyed = [(order.key_of(event.name, values), values, left) for values, left in plays]
        if event.end == end:
            keys[event.name] = {key: True for key, _, _ in keyed if key is not None}
        plays = [part for key, values, left in keyed for part in parted(event, key, values, left)]
    return keys


def needed_events(order, end):
    """The events of the end and all that they need, straight or through others, in order."""
    found = list(order.of_end(end))
    for event in reversed(order.events):
        if event.name in found:
            found.extend(event.needs)
    return [event for event in order if event.name in found]


def parted(event, key, values, left):
    """The plays into which a play parts by what the answers of the event's end tell of this key, if it came out."""
    answers = left.get(event.end, [])
    if key is None or not answers:
        return [(values, left)]
    told = [one.get((event.name, key)) for one in answers]
    unlike = {value: True for value in told}
    return [(with_value(values, event.name, value),
             {**left, event.end: [one for one, other in zip(answers, told) if other == value]}) for value in unlike]


def with_value(values, name, value):
    """The values with that of the event, if it comes out."""
    if value is None:
        return values
    return {**values, name: value}
