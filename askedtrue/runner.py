"""Runs: a program at all ends of a net, beat by beat, while a script spoils packets."""

from askedtrue.errors import BadProgram
from askedtrue.scripts import spent
from askedtrue.tables import is_key_of
from askedtrue.turns import is_turn

MOST_ASKS = 2000


class Run:
    """What was sent, heard and asked in a run up to its last beat."""

    def __init__(self, last, sent, heard, asks):
        self.last = last
        self.sent = sent
        self.heard = heard
        self.asks = asks

    def __eq__(self, other):
        return (isinstance(other, Run) and self.last == other.last and self.sent == other.sent
                and self.heard == other.heard and self.asks == other.asks)


class Stage:
    """A run under way: the memories of the ends, the packets on the ways, and all that was met so far."""

    def __init__(self, net, order, world, program, script):
        self.net = net
        self.order = order
        self.world = world
        self.program = program
        self.spoilt = {(bad[1], bad[2]): None if bad[0] == "lost" else bad[3] for bad in script}
        self.memories = [None] * (net.ends + 1)
        self.coming = {}
        self.sent = []
        self.heard = []
        self.asks = []

    def pass_word(self, end, word):
        """Passes the end's program this word; returns its out."""
        program = self.program
        self.memories[end], out = program(self.memories[end], word)
        return out

    def begin(self):
        """What comes ahead of all work."""
        for end in range(1, self.net.ends + 1):
            self.pass_word(end, ("begin", end))

    def tell_all(self, beat):
        """The turns of a beat."""
        for number, way in enumerate(self.net.ways):
            if not is_turn(self.net, number, beat):
                continue
            packet = self.pass_word(way.source, ("tell", beat, number))
            if packet is None:
                raise BadProgram(way.source, beat)
            self.sent.append((beat, number, packet))
            self.coming[beat + way.delay, number] = self.spoilt.get((number, beat), packet)

    def hear_all(self, beat):
        """The packets that are due at a beat."""
        for number, way in enumerate(self.net.ways):
            if (beat, number) in self.coming:
                packet = self.coming[beat, number]
                self.heard.append((beat, number, packet))
                self.pass_word(way.goal, ("heard", beat, number, packet))

    def work_all(self, beat):
        """The work of all ends at a beat."""
        for end in range(1, self.net.ends + 1):
            out = self.pass_word(end, ("work", beat))
            asked = 0
            while out is not None:
                asked += 1
                if asked > MOST_ASKS or not is_ask(self.order, end, out):
                    raise BadProgram(end, beat)
                name, key = out
                value = self.world.answer(name, key)
                self.asks.append((beat, end, name, key, value))
                out = self.pass_word(end, ("answer", name, key, value))


def is_ask(order, end, thing):
    """Whether the thing asks an event of this end with as many whole numbers as it has needs."""
    if not isinstance(thing, tuple) or len(thing) != 2:
        return False
    name, key = thing
    return name in order.of_end(end) and is_key_of(order.event(name), key)


def run(net, order, world, program, script, last):
    """The run of the program at all ends up to the last beat."""
    spent(net, script)
    stage = Stage(net, order, world, program, script)
    stage.begin()
    stage.work_all(0)
    for beat in range(1, last + 1):
        stage.tell_all(beat)
        stage.hear_all(beat)
        stage.work_all(beat)
    return Run(last, tuple(stage.sent), tuple(stage.heard), tuple(stage.asks))


def view(net, told, end, beat):
    """What the end has met in a run up to the beat: (heard, asks)."""
    ways = net.ways_to(end)
    heard = tuple([thing for thing in told.heard if thing[1] in ways and thing[0] <= beat])
    asks = tuple([ask for ask in told.asks if ask[1] == end and ask[0] <= beat])
    return (heard, asks)
