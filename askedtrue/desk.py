"""The desk: a plan in service, beat by beat, while answers and bad packets are still being told."""

from askedtrue.checks import Checked, cheapest, with_checks
from askedtrue.errors import BadDeed, BadScript, NoDeed
from askedtrue.foes import Foe
from askedtrue.lots import Budgets
from askedtrue.nettext import parse_net
from askedtrue.orders import is_between, is_sequence
from askedtrue.ordertext import parse_order
from askedtrue.runjudge import judge_run
from askedtrue.runner import run
from askedtrue.scripts import make_script, script_fault, spent
from askedtrue.stories import Story, is_deed
from askedtrue.tellers import teller
from askedtrue.times import earliest, greatest_marks, tail_height
from askedtrue.worlds import World, true_beat, true_run

LAST_DEADLINE = 400
MOST_AT_ONCE = 20
MOST_BEATS = 81
# Deeds that are made only while the desk is not running.
STANDING = ("order", "net", "lots", "trust", "world", "checks", "foe")


def plan_times(plan):
    """The earliest times of all events of a plan, with their names, in order."""
    marks = greatest_marks(plan)
    return tuple([(name, tail_height(plan, marks, (name,))) for name in plan.order.names])


def on_duty(desk):
    """The program on duty: the teller that counts on the budgets that are trusted."""
    return teller(desk.plan.with_budgets(desk.trusted))


def take_order(desk, text):
    """Takes the order of this text; there are no deadlines from now on."""
    desk.plan = desk.plan.with_order(parse_order(text))
    desk.deadlines = ()
    return desk.times()


def take_net(desk, text):
    """Takes the net of this text."""
    set_plan(desk, desk.plan.with_net(parse_net(text)))
    return desk.times()


def take_lots(desk, pairs):
    """Takes these budgets."""
    set_plan(desk, desk.plan.with_budgets(Budgets(pairs)))
    return desk.times()


def set_plan(desk, plan):
    """Gives the desk another plan, whose budgets are trusted; no packet of it is bad yet."""
    desk.plan = plan
    desk.trusted = plan.budgets
    desk.script = ()


def take_trust(desk, pairs):
    """Lets the program on duty count on these budgets."""
    plan = desk.plan.with_budgets(Budgets(pairs))
    desk.trusted = plan.budgets
    return plan_times(plan)


def take_world(desk, base, factor):
    """Gives the world another base and factor."""
    desk.world = World(desk.world.told, base, factor)
    return true_run(desk.plan.order, desk.world)


def take_answer(desk, name, key, value):
    """Tells what the world will answer."""
    world = desk.world.with_entry(name, key, value)
    asks = () if desk.record is None else desk.record.asks
    if any([ask[2:4] == (name, tuple(key)) for ask in asks]):
        raise BadDeed("asked")
    desk.world = world
    return true_run(desk.plan.order, world)


def take_bad(desk, packet):
    """Takes a bad packet more into the script."""
    net = desk.plan.net
    script = make_script(net, [*desk.script, packet])
    if packet[2] < desk.beats:
        raise BadDeed("past")
    fault = script_fault(net, desk.plan.budgets, script)
    if fault is not None:
        raise BadScript("beyond", fault[1])
    desk.script = script
    return spent(net, script)


def take_deadline(desk, name, beat):
    """Sets an event a deadline."""
    timed = earliest(desk.plan, name)
    if not is_between(beat, 0, LAST_DEADLINE):
        raise BadDeed("beat")
    desk.deadlines = (*desk.deadlines, (name, beat))
    return timed.beat


def take_checks(desk, prices):
    """Takes the cheapest checks that keep the deadlines, if any do."""
    told = cheapest(desk.plan, desk.deadlines, prices)
    if isinstance(told, Checked):
        set_plan(desk, with_checks(desk.plan, told.lots))
    return told


def take_foe(desk, name):
    """Takes the world and the script with which a foe of the event breaks the program on duty."""
    broken = Foe(desk.plan, name).against(on_duty(desk))
    desk.world = broken.world
    desk.script = broken.script
    return broken


def take_beats(desk, many):
    """Makes so many beats more."""
    if not is_between(many, 1, MOST_AT_ONCE):
        raise BadDeed("beats")
    made = desk.beats
    if made + many > MOST_BEATS:
        raise BadDeed("long")
    plan = desk.plan
    # Answers and bad packets that were told since change nothing of the beats that were made.
    desk.record = run(plan.net, plan.order, desk.world, on_duty(desk), desk.script, made + many - 1)
    desk.beats = made + many
    return tuple([ask for ask in desk.record.asks if ask[0] >= made])


def take_again(desk):
    """Goes back to where no beat was made."""
    made = desk.beats
    if made == 0:
        raise BadDeed("standing")
    desk.beats = 0
    desk.record = None
    return made


# Each changes the desk at its end only, when nothing raises any more.
DEEDS = {"order": take_order, "net": take_net, "lots": take_lots, "trust": take_trust, "world": take_world,
         "answer": take_answer, "bad": take_bad, "deadline": take_deadline, "checks": take_checks, "foe": take_foe,
         "go on": take_beats, "again": take_again}


class Past:
    """What a desk was ahead of a deed."""

    def __init__(self, desk):
        self.plan = desk.plan
        self.trusted = desk.trusted
        self.world = desk.world
        self.script = desk.script
        self.deadlines = desk.deadlines
        self.beats = desk.beats
        self.record = desk.record
        self.deeds = desk.deeds


class Desk:
    """A plan in service, and all that was done with it; the one thing of the package that changes."""

    def __init__(self, plan):
        self.first = plan
        self.plan = plan
        self.trusted = plan.budgets
        self.world = World()
        self.script = ()
        self.deadlines = ()
        self.beats = 0
        self.record = None
        self.deeds = ()
        # For each deed that stands what the desk was ahead of it.
        self._pasts = ()

    def __eq__(self, other):
        return isinstance(other, Desk) and self.first == other.first and self.deeds == other.deeds

    def times(self):
        """The earliest times of all events of the plan, with their names, in order."""
        return plan_times(self.plan)

    def verdict(self):
        """How the run went so far, or None while the desk is not running."""
        if self.record is None:
            return None
        return judge_run(self.plan, self.world, self.script, self.record)

    def missed(self):
        """The deadlines that are over and were not kept."""
        over = [(name, beat) for name, beat in self.deadlines if beat < self.beats]
        asked = {name: true_beat(self.plan.order, self.world, self.record.asks, name) for name, _ in over}
        return tuple([(name, beat) for name, beat in over if asked[name] is None or asked[name] > beat])

    def take_deed(self, deed):
        """Makes a deed, and tells what comes of it."""
        if not is_deed(deed):
            raise BadDeed("deed")
        if deed[0] == "back":
            return self._take_back()
        if deed[0] in STANDING and self.beats > 0:
            raise BadDeed("running")
        past = Past(self)
        action = DEEDS[deed[0]]
        things = tuple(deed[1:])
        told = action(self, *things)
        self.deeds = (*self.deeds, kept_deed(deed))
        self._pasts = (*self._pasts, past)
        return told

    def tell_story(self):
        """The story of the desk."""
        return Story(self.first, self.deeds)

    def tried(self, call):
        """What the call returns of the desk, which is left as it was."""
        past = Past(self)
        pasts = self._pasts
        try:
            return call(self)
        finally:
            self.plan, self.trusted, self.world, self.script = past.plan, past.trusted, past.world, past.script
            self.deadlines, self.beats, self.record = past.deadlines, past.beats, past.record
            self.deeds, self._pasts = past.deeds, pasts

    def _take_back(self):
        if not self.deeds:
            raise NoDeed()
        deed = self.deeds[-1]
        past = self._pasts[-1]
        self.plan, self.trusted, self.world, self.script = past.plan, past.trusted, past.world, past.script
        self.deadlines, self.beats, self.record = past.deadlines, past.beats, past.record
        self.deeds, self._pasts = past.deeds, self._pasts[:-1]
        return deed


def kept_deed(deed):
    """The deed as a tuple, and so all lists in it, but for a bad packet."""
    if deed[0] == "bad":
        return tuple(deed)
    return tuples_of(deed)


def tuples_of(thing):
    """The thing with a tuple in the place of each list in it."""
    if not is_sequence(thing):
        return thing
    return tuple([tuples_of(part) for part in thing])


def retell_story(story):
    """The desk of this story."""
    desk = Desk(story.plan)
    for deed in list(story.deeds):
        if is_deed(deed) and deed[0] == "back":
            raise BadDeed("deed")
        desk.take_deed(deed)
    return desk
