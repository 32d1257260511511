"""Tables of what an end has answered, and copies of them."""

from askedtrue.orders import is_whole


def is_copy(order, end, thing):
    """Whether the thing is what a table of the end could be; lists are no copies."""
    if not isinstance(thing, tuple):
        return False
    events = {event.name: event for event in order if event.end == end}
    last = None
    for entry in thing:
        if not is_own_entry(events, entry):
            return False
        if last is not None and not comes_behind(events, last, entry):
            return False
        last = entry
    return True


def is_own_entry(events, thing):
    """Whether the thing is an entry of one of these events."""
    if not isinstance(thing, tuple) or len(thing) != 3:
        return False
    name, key, value = thing
    if not isinstance(name, str) or name not in events or not is_whole(value):
        return False
    return is_key_of(events[name], key)


def is_key_of(event, thing):
    """Whether the thing is a tuple of as many whole numbers as the event has needs."""
    if not isinstance(thing, tuple) or len(thing) != len(event.needs):
        return False
    return all([is_whole(number) for number in thing])


def comes_behind(events, one, other):
    """Whether the other entry can stand behind the one in a copy."""
    if one[0] == other[0] and events[one[0]].kind == "action":
        return False
    return one[:2] < other[:2]


def entry_value(table, name, key):
    """The value of the entry with this name and key, or None."""
    for entry in table:
        if entry[0] == name and entry[1] == key:
            return entry[2]
    return None


def with_answer(table, name, key, value):
    """The table in which this entry stands, too; as it was if one with its name and key does."""
    if entry_value(table, name, key) is not None:
        return table
    return tuple(sorted([*table, (name, key, value)]))


def is_within(one, other):
    """Whether each entry of the copy is an entry of the other one."""
    if len(one) > len(other):
        return False
    entries = {entry: True for entry in other}
    return all([entry in entries for entry in one])


def kept_copies(copies):
    """The copies that are within no other one, in their order; of equal ones the first."""
    unlike = list({copy: True for copy in copies})
    return tuple([copy for copy in unlike if not any([copy != other and is_within(copy, other) for other in unlike])])
