"""Scripts: which packets of a run are bad, and how they come out."""

from askedtrue.errors import BadScript
from askedtrue.orders import is_count, is_sequence
from askedtrue.turns import is_turn


def script_fault(net, budgets, script):
    """Why the thing is no script of the net within the budgets, or None."""
    fault = form_fault(net, script)
    if fault is not None:
        return fault
    for lot, (corrupted, lost) in enumerate(count_bad(net, script)):
        most_corrupted, most_lost = budgets.pair(lot) if budgets.has_lot(lot) else (0, 0)
        if corrupted > most_corrupted or lost > most_lost:
            return ("beyond", lot)
    return None


def form_fault(net, script):
    """Why the thing is no script of the net, whatever the budgets, or None."""
    if not is_sequence(script):
        return ("script", None)
    for at, thing in enumerate(script):
        word = packet_fault(net, script, at)
        if word is not None:
            return (word, at)
    return None


def packet_fault(net, script, at):
    """Why the thing at this place, the first one that may be wrong, cannot stand there, or None."""
    thing = script[at]
    if not is_bad_packet(thing):
        return "packet"
    if not net.has_way(thing[1]):
        return "way"
    if not is_turn(net, thing[1], thing[2]):
        return "turn"
    if at > 0 and rank(script[at - 1]) >= rank(thing):
        return "order"
    return None


def is_bad_packet(thing):
    """Whether the thing has the form of a bad packet."""
    if not isinstance(thing, tuple) or len(thing) not in (3, 4):
        return False
    if not is_count(thing[1]) or not is_count(thing[2]):
        return False
    if len(thing) == 3:
        return thing[0] == "lost"
    return thing[0] == "corrupted" and thing[3] is not None


def rank(bad):
    """What the bad packets of a script ascend by: beat, then way."""
    return (bad[2], bad[1])


def count_bad(net, script):
    """How many packets of each lot a right script corrupts and loses."""
    lots = max([way.lot + 1 for way in net.ways], default=0)
    corrupted = [0] * lots
    lost = [0] * lots
    for bad in script:
        lot = net.ways[bad[1]].lot
        if bad[0] == "lost":
            lost[lot] += 1
        else:
            corrupted[lot] += 1
    return tuple(zip(corrupted, lost))


def spent(net, script):
    """How many packets of each lot of the net the script corrupts and loses."""
    check_form(net, script)
    return count_bad(net, script)


def make_script(net, bad):
    """The script of these bad packets, which may stand in any order."""
    if not is_sequence(bad):
        raise BadScript("script", None)
    for at, thing in enumerate(bad):
        if not is_bad_packet(thing):
            raise BadScript("packet", at)
    script = tuple(sorted(bad, key=rank))
    check_form(net, script)
    return script


def check_form(net, script):
    """Raises BadScript unless the thing is a script of the net, whatever the budgets."""
    fault = form_fault(net, script)
    if fault is not None:
        raise BadScript(fault[0], fault[1])


def heard_as(script, way, beat, packet):
    """What is heard of the packet that the way sends at this turn."""
    for bad in script:
        if bad[1] == way and bad[2] == beat:
            return None if bad[0] == "lost" else bad[3]
    return packet
