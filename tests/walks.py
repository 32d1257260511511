"""A walk over all paths, straight from the words of [1.4], [5.1] and [5.3], to judge the quick ways by."""


def loose_forebears(order, name):
    """The loose forebears of an event: grown until nothing more comes."""
    events = {event.name: event for event in order.events}
    found = set(events[name].needs)
    while True:
        more = {need for elder in found if events[elder].kind == "query" for need in events[elder].needs}
        if more <= found:
            return found
        found |= more


def is_source(order, elder, name):
    events = {event.name: event for event in order.events}
    if events[name].kind == "query":
        return elder in events[name].needs
    return elder in loose_forebears(order, name)


def all_paths(order, name):
    """All paths to the event: grown forwards from the events without needs, then sorted."""
    names = [event.name for event in order.events]
    rows = [(event.name,) for event in order.events if not event.needs]
    found = []
    forebears = {other: [elder for elder in names if is_source(order, elder, other)] for other in names}
    while rows:
        row = rows.pop()
        if row[-1] == name:
            found.append(row)
        rows += [(*row, other) for other in names if row[-1] in forebears[other]]
    return sorted(found, key=lambda path: [names.index(step) for step in reversed(path)])


def walk_way(net, number, beat):
    """The beat at which the first packet behind the beat is heard: beat by beat."""
    way = net.ways[number]
    beat += 1
    while beat % net.period != way.phase:
        beat += 1
    return beat + way.delay


def path_facts(plan, path):
    """What [5.3] says of a path: clean, held, the lots touched, and clean with what is sure alone."""
    net, pairs = plan.net, plan.budgets.pairs
    events = {event.name: event for event in plan.order.events}
    clean = periods = 0
    touched = set()
    for elder, name in zip(path, path[1:]):
        route = net.route(events[elder].end, events[name].end)
        for number in route:
            clean = walk_way(net, number, clean)
        lots = {net.ways[number].lot for number in route}
        if events[name].kind == "action":
            periods += sum(pairs[lot][0] for lot in lots)
        touched |= lots
    once = sum(sum(pairs[lot]) for lot in touched)
    return clean, net.period * (periods + once), tuple(sorted(touched)), clean + net.period * periods
