"""[11.1] to [11.4]"""

import random
import unittest

from askedtrue.errors import BadOrder, BadRounds
from askedtrue.orders import Event, Order
from askedtrue.rounds import RoundEvent, Rounds
from tests.chances import chance_rounds
from tests.helpers import Case
from tests.walks import loose_forebears

EVENTS = (RoundEvent("a", 1, "query", (("c", 1),)), RoundEvent("b", 2, "query", (("a", 0), ("b", 1))),
          RoundEvent("c", 1, "action", (("b", 0), ("a", 1), ("c", 1))))
ROUNDS = Rounds(EVENTS)


class RoundEvents(Case):
    def test_result(self):
        self.assert_equals(lambda: RoundEvent("a", 1, "query", (("b", 1),)), [
            RoundEvent("b", 1, "query", (("b", 1),)), RoundEvent("a", 2, "query", (("b", 1),)),
            RoundEvent("a", 1, "action", (("b", 1),)), RoundEvent("a", 1, "query"), Event("a", 1, "query", ())])
        self.assert_same(RoundEvent("a", 1, "query").needs, ())
        self.assertEqual(RoundEvent(needs=(("b", 1),), kind="query", end=1, name="a"), RoundEvent("a", 1, "query", (("b", 1),)))

    def test_it_checks_nothing(self):
        event = RoundEvent(None, "x", [], {})
        self.assert_same((event.name, event.end, event.kind, event.needs), (None, "x", [], {}))


class RightRounds(Case):
    def test_attributes(self):
        for events in (EVENTS, list(EVENTS)):
            rounds = Rounds(events)
            self.assertEqual(rounds.events, EVENTS)
            self.assertIs(type(rounds.events), tuple)
            self.assert_same(rounds.names, ("a", "b", "c"))
            self.assertEqual(list(rounds), list(EVENTS))
            self.assertEqual(len(rounds), 3)

    def test_none(self):
        rounds = Rounds(())
        self.assert_same((rounds.events, rounds.names, len(rounds), list(rounds)), ((), (), 0, []))

    def test_equal(self):
        self.assert_equals(lambda: Rounds(EVENTS), [Rounds(EVENTS[:0]), Rounds([RoundEvent("a", 1, "query")]),
                                                    Rounds([*EVENTS, RoundEvent("d", 1, "query")])])
        self.assertEqual(Rounds(list(EVENTS)), Rounds(EVENTS))

    def test_lists_are_let_and_not_kept(self):
        need = ["a", 1]
        needs = [need]
        events = [RoundEvent("a", 1, "query", needs)]
        rounds = Rounds(events)
        need[1] = 0
        needs.append(("x", 1))
        events.clear()
        self.assert_same(rounds.sources("a"), (("a", 1),))
        self.assertEqual(rounds.unrolled(2), Order([Event("a0", 1, "query"), Event("a1", 1, "query", ("a0",))]))

    def test_greatest(self):
        names = ["a", "bb", "abcdef", "z", "zzzzzz", "query"]
        events = [RoundEvent(name, 5, "action", [(name, 1), *[(other, 0) for other in names[:at]][:2]])
                  for at, name in enumerate(names)]
        self.assert_same(Rounds(events).names, tuple(names))


class WrongRounds(Case):
    def test_many(self):
        events = [RoundEvent(name, 1, "query") for name in "abcdefg"]
        self.assert_raises(BadRounds("many", None), Rounds, events)
        self.assert_raises(BadRounds("many", None), Rounds, [RoundEvent(None, 0, 0)] * 7)
        self.assertEqual(len(Rounds(events[:6])), 6)

    def refused(self, what, event, name="b"):
        self.assert_raises(BadRounds(what, name), Rounds, [EVENTS[0], event, EVENTS[2]])
        self.assert_raises(BadRounds(what, name), Rounds, (EVENTS[0], event, RoundEvent(7, 0, None, None), EVENTS[2]))

    def test_name(self):
        for name in (None, 1, "", "A", "a1", "1", "abcdefg", "a b", "a-", "\u00e4", ["a"], True, b"a"):
            self.refused("name", RoundEvent(name, 0, None, None), name)

    def test_twice(self):
        self.refused("twice", RoundEvent("a", 0, None, None), "a")

    def test_end(self):
        for end in (None, 0, 6, -1, True, "1", 1.0, (1,)):
            self.refused("end", RoundEvent("b", end, None, None))

    def test_kind(self):
        for kind in (None, "", "Query", "actions", 1, ["query"], True):
            self.refused("kind", RoundEvent("b", 1, kind, None))

    def test_needs(self):
        for needs in (None, 1, "ab", {}, {"a": 0}, ("a",), ("a", 0), (("a",),), (("a", 0, 0),), ((),), (None,), ("a0",), (("a", 2),),
                      (("a", -1),), (("a", True),), (("a", False),), (("a", None),), (("a", "0"),), (("a", 0.0),), (("b", 0),),
                      (("c", 0),), (("x", 0),), (("x", 1),), ((None, 1),), ((["a"], 1),), ((1, 0),), (("a", 0), ("a", 0)),
                      (("a", 0), ["a", 0]), (("a", 1), ("b", 1), ("a", 1)), (("a", 0), ("a", 1), ("b", 1), ("c", 1)),
                      (("a", 0), ("a", 1), ("x", 1)), ({"a": 0, "b": 1},), (("a", [0]),)):
            self.refused("needs", RoundEvent("b", 1, "query", needs))

    def test_an_earlier_event_is_first(self):
        self.assert_raises(BadRounds("needs", "a"), Rounds, [RoundEvent("a", 1, "query", (("b", 0),)), RoundEvent("a", 1, "query")])


class Unrolled(Case):
    def test_in_round(self):
        self.assert_same(ROUNDS.in_round("a", 0), "a0")
        self.assert_same(ROUNDS.in_round("b", 12), "b12")
        self.assert_same(ROUNDS.in_round("c", 99), "c99")

    def test_in_round_refused(self):
        for name in ("x", None, "a0", 1, ["a"]):
            self.assert_raises(BadRounds("unknown", name), ROUNDS.in_round, name, 0)
            self.assert_raises(BadRounds("unknown", name), ROUNDS.in_round, name, -1)
            self.assert_raises(BadRounds("unknown", name), ROUNDS.sources, name)
        for number in (-1, 100, None, True, False, "0", 0.0, (0,)):
            self.assert_raises(BadRounds("round", None), ROUNDS.in_round, "a", number)

    def test_by_hand(self):
        self.assertEqual(ROUNDS.unrolled(0), Order(()))
        first = [Event("a0", 1, "query"), Event("b0", 2, "query", ("a0",)), Event("c0", 1, "action", ("b0",))]
        self.assertEqual(ROUNDS.unrolled(1), Order(first))
        self.assertEqual(ROUNDS.unrolled(2), Order([
            *first, Event("a1", 1, "query", ("c0",)), Event("b1", 2, "query", ("a1", "b0")),
            Event("c1", 1, "action", ("b1", "a0", "c0"))]))
        self.assertEqual(len(ROUNDS.unrolled(4)), 12)

    def test_a_later_event_of_the_round_before(self):
        rounds = Rounds([RoundEvent("a", 1, "query", (("b", 1),)), RoundEvent("b", 1, "query")])
        self.assertEqual(rounds.unrolled(2).events[2], Event("a1", 1, "query", ("b0",)))

    def test_refused(self):
        for many in (-1, 101, None, True, "1", 1.0):
            self.assert_raises(BadRounds("many", None), ROUNDS.unrolled, many)
        for many in (5, 6, 50, 100):
            self.assert_raises(BadOrder("many", None), ROUNDS.unrolled, many)
        self.assertEqual(len(Rounds(()).unrolled(100)), 0)
        one = Rounds([RoundEvent("abcdef", 1, "query", (("abcdef", 1),))])
        self.assertEqual(one.unrolled(12).names[-1], "abcdef11")
        self.assert_raises(BadOrder("many", None), one.unrolled, 13)


class Sources(Case):
    def test_by_hand(self):
        self.assert_same(ROUNDS.sources("a"), (("c", 1),))
        self.assert_same(ROUNDS.sources("b"), (("a", 0), ("b", 1)))
        # Through b the action's loose forebears are a of its round, and b of the round before.
        self.assert_same(ROUNDS.sources("c"), (("a", 0), ("b", 0), ("c", 1)))

    def test_least_lag_of_a_query(self):
        rounds = Rounds([RoundEvent("a", 1, "query"), RoundEvent("b", 1, "query", (("a", 1), ("b", 1), ("a", 0)))])
        self.assert_same(rounds.sources("b"), (("a", 0), ("b", 1)))

    def test_lags_of_a_long_way_back(self):
        rounds = Rounds([RoundEvent("z", 1, "action", (("a", 1),)), RoundEvent("a", 1, "query", (("b", 1),)),
                         RoundEvent("b", 1, "query", (("c", 1),)), RoundEvent("c", 1, "query", (("d", 1),)),
                         RoundEvent("d", 1, "query", (("e", 1),)), RoundEvent("e", 1, "query", (("z", 1),))])
        self.assert_same(rounds.sources("z"), (("z", 6), ("a", 1), ("b", 2), ("c", 3), ("d", 4), ("e", 5)))
        self.assert_same(rounds.sources("a"), (("b", 1),))

    def test_not_through_an_action(self):
        rounds = Rounds([RoundEvent("a", 1, "query"), RoundEvent("b", 1, "action", (("a", 0),)),
                         RoundEvent("c", 1, "query", (("b", 0),)), RoundEvent("d", 1, "action", (("c", 1), ("d", 1)))])
        self.assert_same(rounds.sources("d"), (("b", 1), ("c", 1), ("d", 1)))
        self.assert_same(rounds.sources("a"), ())

    def test_against_an_unrolled_order(self):
        chance = random.Random(161)
        for _ in range(300):
            rounds = chance_rounds(chance, chance.randint(0, 6), 3)
            # As long as one wishes: a row of events that is no Order, for that has 12 events at most.
            many = 8
            events = [event for number in range(many) for event in self.round_of(rounds, number)]
            row = type("Row", (), {"events": events})
            for event in rounds:
                name = f"{event.name}{many - 1}"
                if event.kind == "query":
                    found = [one for one in events if one.name == name][0].needs
                else:
                    found = loose_forebears(row, name)
                lags = {}
                for other in found:
                    plain, number = other.rstrip("0123456789"), int(other.lstrip("abcdefghijklmnopqrstuvwxyz"))
                    lags[plain] = min(many - 1 - number, lags.get(plain, 99))
                self.assert_same(rounds.sources(event.name), tuple((other, lags[other]) for other in rounds.names if other in lags))

    def round_of(self, rounds, number):
        for event in rounds.events:
            needs = [f"{name}{number - lag}" for name, lag in event.needs if number >= lag]
            yield Event(f"{event.name}{number}", event.end, event.kind, needs)

    def test_unrolled_against_its_words(self):
        chance = random.Random(162)
        for _ in range(100):
            rounds = chance_rounds(chance, chance.randint(0, 6), 3)
            many = 12 // max(1, len(rounds))
            events = [event for number in range(many) for event in self.round_of(rounds, number)]
            self.assertEqual(rounds.unrolled(many), Order(events))


if __name__ == "__main__":
    unittest.main()
