"""What is sure at an end, however the copies that it heard came out."""


def told_counts(copies, name, key=None):
    """The entries of the event that the copies tell, ascending, each with how many copies have it."""
    counts = {}
    for copy in copies:
        for entry in copy:
            if entry[0] == name and (key is None or entry[1] == key):
                counts[entry] = counts.get(entry, 0) + 1
    return tuple(sorted(counts.items()))


def sure_entry(counts, could):
    """The only entry that fits although so many copies could be false, or None."""
    fitting = []
    total = sum([number for _, number in counts])
    for at, (entry, _) in enumerate(counts):
        others = [number for place, (_, number) in enumerate(counts) if place != at]
        if total - max(others, default=0) > could:
            fitting.append(entry)
    return fitting[0] if len(fitting) == 1 else None


def sure_values(order, end, table, heard, could):
    """The sure values at the end, by the names of events, in order."""
    tallies = {other: tally(copies) for other, copies in heard.items()}
    return values_by_tallies(order, end, table, tallies, could)


def tally(copies):
    """How many of the copies have each entry."""
    counts = {}
    for copy in copies:
        for entry in copy:
            counts[entry] = counts.get(entry, 0) + 1
    return counts


def values_by_tallies(order, end, table, tallies, could):
    """The sure values at the end, where of each other end a tally of its copies is known."""
    told = {other: by_name(counts) for other, counts in tallies.items()}
    values = {}
    for event in order:
        key = order.key_of(event.name, values)
        # An action is asked with its true key alone: whatever key is told of it is as good.
        if event.kind == "query" and key is None:
            continue
        if event.end == end:
            sure = first_told(table, event, key)
        else:
            pairs = told.get(event.end, {}).get(event.name, [])
            counts = [pair for pair in pairs if event.kind == "action" or pair[0][1] == key]
            sure = sure_entry(counts, could.get(event.end, 0))
        if sure is not None:
            values[event.name] = sure[2]
    return values


def by_name(counts):
    """The pairs (entry, number) of a tally by the names of the entries."""
    pairs = {}
    for entry, number in counts.items():
        pairs.setdefault(entry[0], []).append((entry, number))
    return pairs


def first_told(table, event, key):
    """The entry of the event in the table, a query's with this key alone, or None."""
    for entry in table:
        if entry[0] == event.name and (event.kind == "action" or entry[1] == key):
            return entry
    return None
