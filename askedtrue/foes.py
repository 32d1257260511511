"""Foes: for any program, answers and bad packets with which it does a false action or is late."""

from askedtrue.errors import BadFoe
from askedtrue.hunts import Hunt
from askedtrue.passages import passages
from askedtrue.runner import run
from askedtrue.scripts import script_fault
from askedtrue.times import crossings, earliest
from askedtrue.worlds import false_ask, true_beat


class Pair:
    """Two worlds with a script each, which cannot be told apart behind the passage."""

    def __init__(self, world, other, script, twin, passage):
        self.world = world
        self.other = other
        self.script = script
        self.twin = twin
        self.passage = passage

    def __eq__(self, other):
        return (isinstance(other, Pair) and self.world == other.world and self.other == other.other
                and self.script == other.script and self.twin == other.twin and self.passage == other.passage)


class Broken:
    """A world and a script with which a program does a false action, or is late."""

    def __init__(self, word, world, script, name, beat):
        self.word = word
        self.world = world
        self.script = script
        self.name = name
        self.beat = beat

    def __eq__(self, other):
        return (isinstance(other, Broken) and self.word == other.word and self.world == other.world
                and self.script == other.script and self.name == other.name and self.beat == other.beat)


class Game:
    """The pairs of a foe's game against a program, and how the program broke."""

    def __init__(self, pairs, broken):
        self.pairs = pairs
        self.broken = broken

    def __eq__(self, other):
        return isinstance(other, Game) and self.pairs == other.pairs and self.broken == other.broken


class Foe:
    """A foe of an event: whatever the program does, it is led to a false action or kept from the event."""

    def __init__(self, plan, name):
        self.plan = plan
        self.name = name
        self.beat = earliest(plan, name).beat
        if self.beat == 0:
            raise BadFoe("zero")
        self.passages = passages(plan, name)

    def __eq__(self, other):
        return isinstance(other, Foe) and self.plan == other.plan and self.name == other.name

    def game(self, program):
        """Plays against the program: one pair for each passage, none behind a false action."""
        order = self.plan.order
        hunt = Hunt(self.plan, program, self.beat - 1)
        pairs = []
        asks = ()
        for crossing in crossings(self.plan, earliest(self.plan, self.name).path):
            if not crossing.ways:
                hunt.lead_on(crossing.elder)
                continue
            passage = self.passages[len(pairs)]
            sides = passage_sides(hunt, passage)
            pairs.append(pair_of(sides, passage))
            for world, script, told in sides:
                broken = false_broken(order, world, script, told.asks)
                if broken is not None:
                    return Game(tuple(pairs), broken)
            asks = sides[0][2].asks
        # What is led on within the last end tells the same as the last pair's run, but other true keys.
        broken = false_broken(order, hunt.world, hunt.script, asks)
        if broken is None:
            broken = Broken("late", hunt.world, hunt.script, self.name, self.beat - 1)
        return Game(tuple(pairs), broken)

    def against(self, program):
        """How the program breaks."""
        return self.game(program).broken


def passage_sides(hunt, passage):
    """The two sides (world, script, run) of a passage."""
    if hunt.plan.order.event(passage.crossing.name).kind == "query":
        return hunt.pass_query(passage)
    return hunt.pass_action(passage)


def pair_of(sides, passage):
    """The pair that these two sides of a passage make."""
    world, script, _ = sides[0]
    other, twin, _ = sides[1]
    return Pair(world, other, script, twin, passage)


def false_broken(order, world, script, asks):
    """The Broken of the first false ask, or None."""
    at = false_ask(order, world, asks)
    if at is None:
        return None
    return Broken("false", world, script, asks[at][2], asks[at][0])


def broken_fault(plan, name, program, broken):
    """The first word that tells why the program does not break so, or None."""
    foe = Foe(plan, name)
    if broken.word not in ("false", "late"):
        return "word"
    if script_fault(plan.net, plan.budgets, broken.script) is not None:
        return "script"
    told = run(plan.net, plan.order, broken.world, program, broken.script, foe.beat - 1)
    wrong = false_broken(plan.order, broken.world, broken.script, told.asks)
    if broken.word == "late":
        missed = true_beat(plan.order, broken.world, told.asks, name) is None
        right = broken.name == name and broken.beat == foe.beat - 1 and wrong is None and missed
    else:
        right = wrong is not None and (wrong.name, wrong.beat) == (broken.name, broken.beat)
    return None if right else broken.word
