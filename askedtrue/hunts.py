"""How a foe leads a program on: worlds that tell new numbers, and scripts that hide them."""

from askedtrue.runner import run
from askedtrue.worlds import World, fresh_number, true_run


class Hunt:
    """A foe's game under way: its world, its script, and a number above all that was met so far."""

    def __init__(self, plan, program, last):
        self.plan = plan
        self.program = program
        self.last = last
        self.world = World()
        self.script = ()
        self.top = fresh_number([self.world], ())

    def fresh(self):
        """A number that nobody has met."""
        self.top += 1
        return self.top

    def run_of(self, world, script, last):
        """The run of the program in this world with this script."""
        plan = self.plan
        return run(plan.net, plan.order, world, self.program, script, last)

    def whole_run(self, world, script):
        """The run up to the last beat; all numbers in it are met from now on."""
        told = self.run_of(world, script, self.last)
        self.top = max(self.top, fresh_number([world], told.asks))
        return told

    def new_values(self, worlds, name):
        """The worlds, each with a new value of the event and with what the queries behind it tell."""
        told = [world.with_entry(name, self.true_key(world, name), self.fresh()) for world in worlds]
        return self.new_keys(told, name)

    def new_keys(self, worlds, name):
        """The worlds, with new values told in all of them for the true keys of queries that hang on the event.

        So true keys to which the event leads have new numbers in them, and are unlike in these worlds.
        """
        order = self.plan.order
        for event in order:
            if event.kind == "query" and name in order.loose(event.name):
                keys = [self.true_key(world, event.name) for world in worlds]
                entries = [(event.name, key, self.fresh()) for key in keys]
                worlds = [with_entries(world, entries) for world in worlds]
        return worlds

    def true_key(self, world, name):
        """The event's true key in the world."""
        order = self.plan.order
        return true_run(order, world)[order.place(name)][1]

    def lead_on(self, name):
        """Gives the event a new value, so that no true key behind it has been asked."""
        self.world = self.new_values([self.world], name)[0]

    def pass_query(self, passage):
        """The two sides (world, script, run) of a passage into a query."""
        elder = passage.crossing.elder
        second = self.new_values([self.world], elder)[0]
        key = self.true_key(second, elder)
        value = second.answer(elder, key)
        lost = tuple([("lost", turn.way, turn.beat) for turn in passage.held if turn.kind == 3])
        twin = self.script + lost
        # The second run hangs on nothing that the first world tells of the elder event: so it is made
        # first, and the first world tells what is not asked in it.
        told = self.whole_run(second, twin)
        world = self.new_keys([second.with_entry(elder, key, self.fresh())], elder)[0]
        other = world.with_entry(elder, key, value)
        self.world = world
        self.script = (*self.script, *[bad_packet(turn, told) for turn in passage.held])
        return [(world, self.script, self.whole_run(world, self.script)), (other, twin, told)]

    def pass_action(self, passage):
        """The two sides (world, script, run) of a passage into an action."""
        world, other = self.new_values([self.world, self.world], passage.crossing.elder)
        script = self.script
        twin = self.script
        # Turn by turn, each packet that one run is to bring in the other one, too.
        for turn in passage.held:
            if turn.kind == 1:
                twin = (*twin, bad_packet(turn, self.run_of(world, script, turn.beat)))
            elif turn.kind == 2:
                script = (*script, bad_packet(turn, self.run_of(other, twin, turn.beat)))
            else:
                script = (*script, ("lost", turn.way, turn.beat))
                twin = (*twin, ("lost", turn.way, turn.beat))
        self.world = world
        self.script = script
        return [(world, script, self.whole_run(world, script)), (other, twin, self.whole_run(other, twin))]


def with_entries(world, entries):
    """The world in which all these entries are told."""
    for name, key, value in entries:
        world = world.with_entry(name, key, value)
    return world


def bad_packet(turn, told):
    """The bad packet of a held turn; one that is not lost brings the packet that was sent there in this run."""
    if turn.kind == 3:
        return ("lost", turn.way, turn.beat)
    sent = [packet for beat, way, packet in told.sent if (beat, way) == (turn.beat, turn.way)]
    return ("corrupted", turn.way, turn.beat, sent[0])
