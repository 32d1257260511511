"""[0.7] of all result classes: each checks nothing, keeps what it is given, and is equal by all its attributes."""

import inspect

from askedtrue.checks import Checked, Never
from askedtrue.corners import Breach, Corner
from askedtrue.errors import AskedError
from askedtrue.flows import Many
from askedtrue.foes import Broken, Game, Pair
from askedtrue.holds import Endless, Held
from askedtrue.margins import Inequality
from askedtrue.nets import Way
from askedtrue.paces import Pace
from askedtrue.passages import HeldTurn, Passage
from askedtrue.phases import Phased
from askedtrue.ringplans import RingTime
from askedtrue.rounds import RoundEvent
from askedtrue.runjudge import Beyond, Right, Wrong
from askedtrue.runner import Run
from askedtrue.stories import Story
from askedtrue.streams import Confused
from askedtrue.times import Crossing, Timed
from askedtrue.twins import Misled, Starved
from askedtrue.wholes import Solutions
from tests.helpers import Case

RESULTS = {
    Way: ("source", "goal", "phase", "delay", "lot"), Crossing: ("elder", "name", "ways", "sure", "last"),
    Timed: ("beat", "path", "clean", "held"), Inequality: ("es", "fs", "room", "path"), Corner: ("pairs", "bars"),
    Breach: ("pairs", "path"), Phased: ("phases", "beat"), Run: ("last", "sent", "heard", "asks"), Right: ("beats",),
    Wrong: ("name", "beat"), Beyond: ("lot",), HeldTurn: ("way", "beat", "kind"),
    Passage: ("crossing", "start", "held", "beat"), Pair: ("world", "other", "script", "twin", "passage"),
    Broken: ("word", "world", "script", "name", "beat"), Game: ("pairs", "broken"),
    RoundEvent: ("name", "end", "kind", "needs"), Pace: ("beats", "rounds", "circuit", "potentials"),
    Checked: ("lots", "price", "bars"), Never: ("path",), Held: ("turns", "rows"), Endless: ("rows", "rings"),
    Misled: ("word", "rows", "heard", "turn", "value", "side"), Starved: ("row", "heard", "value"),
    Solutions: ("point", "moves"), Confused: ("first", "second", "heard"), Many: ("beat", "flows"),
    RingTime: ("beat", "chain", "dealt"), Story: ("plan", "deeds"),
}


class Results(Case):
    def test_each_keeps_what_it_is_given(self):
        for made, names in RESULTS.items():
            self.assertEqual(tuple(inspect.signature(made).parameters), names)
            things = [object() for _ in names]
            for result in (made(*things), made(**dict(zip(names, things)))):
                for name, thing in zip(names, things):
                    self.assertIs(getattr(result, name), thing)

    def test_equal_by_all_attributes(self):
        for made, names in RESULTS.items():
            right = [(name,) for name in names]
            others = [made(*[*right[:at], "other", *right[at + 1:]]) for at in range(len(names))]
            others += [other(*[(name,) for name in names]) for other, more in RESULTS.items()
                       if other is not made and len(more) == len(names)]
            self.assert_equals(lambda: made(*right), [*others, tuple(right), AskedError(*right)])

    def test_needs_of_a_round_event_may_be_left_out(self):
        self.assert_same(RoundEvent("a", 1, "query").needs, ())
