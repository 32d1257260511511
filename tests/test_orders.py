"""[1.1] to [1.5], and [0.5] of events and orders."""

import unittest

from askedtrue.errors import BadOrder
from askedtrue.orders import Event, Order, is_name, is_whole
from tests.helpers import Case, chain


def mixed():
    """Needs in another order than the events, and an action among the forebears."""
    return Order([
        Event("a", 1, "query"), Event("b", 2, "query", ("a",)), Event("c", 1, "action", ("b",)),
        Event("d", 2, "query", ("c", "a")), Event("e", 3, "action", ("d", "b")), Event("f", 1, "query", ("e",)),
        Event("g", 1, "query"),
    ])


class Things(Case):
    def test_whole_numbers(self):
        for thing in (0, 1, -1, 10 ** 300):
            self.assertIs(is_whole(thing), True)
        for thing in (True, False, None, 1.0, "1", (1,), [], b"1"):
            self.assertIs(is_whole(thing), False, thing)

    def test_names(self):
        for thing in ("a", "z", "a0", "z9z9z9z9", "abcdefgh", "a0123456", "query"):
            self.assertIs(is_name(thing), True, thing)
        for thing in ("", "abcdefghi", "0a", "9", "A", "aB", "a b", "a_", "a-", "a.", "a\n", "\u00e4", "a\u00e4",
                      "a\u00b2", "a\u0661", " a", "`", "{", "a/", "a:", None, 1, True, b"a", ["a"], ("a",)):
            self.assertIs(is_name(thing), False, repr(thing))


class Events(Case):
    def test_attributes(self):
        event = Event("b", 2, "action", ("a",))
        self.assertEqual((event.name, event.end, event.kind, event.needs), ("b", 2, "action", ("a",)))
        self.assertEqual(Event("a", 1, "query").needs, ())

    def test_parameters_by_name(self):
        self.assertEqual(Event(needs=["a"], kind="query", end=2, name="b"), Event("b", 2, "query", ("a",)))

    def test_needs_are_kept_as_a_tuple(self):
        needs = ["a", "b"]
        event = Event("c", 1, "query", needs)
        needs.append("d")
        self.assert_same(event.needs, ("a", "b"))

    def test_checks_nothing(self):
        event = Event(7, "no end", None, (7, 7, [], None, "x"))
        self.assertEqual((event.name, event.end, event.kind, event.needs), (7, "no end", None, (7, 7, [], None, "x")))

    def test_equality(self):
        self.assert_equals(lambda: Event("b", 2, "query", ["a"]), [
            Event("c", 2, "query", ("a",)), Event("b", 3, "query", ("a",)), Event("b", 2, "action", ("a",)),
            Event("b", 2, "query", ()), Event("b", 2, "query", ("a", "c")), ("b", 2, "query", ("a",))])


class Refused(Case):
    def refuse(self, word, name, *events):
        self.assert_raises(BadOrder(word, name), Order, events)
        self.assert_raises(BadOrder(word, name), Order, list(events))

    def test_many(self):
        events = [Event(f"a{at}", 1, "query") for at in range(13)]
        self.assertEqual(len(Order(events[:12])), 12)
        self.refuse("many", None, *events)

    def test_many_comes_first(self):
        self.refuse("many", None, *[Event("", 0, "", ("x",))] * 13)

    def test_name(self):
        for name in ("", "A", "abcdefghi", None, 1, ["a"], ("a",), True):
            self.refuse("name", name, Event(name, 1, "query"))

    def test_twice(self):
        self.refuse("twice", "a", Event("a", 1, "query"), Event("b", 1, "query"), Event("a", 1, "query"))

    def test_end(self):
        for end in (0, 6, -1, True, False, None, "1", 1.0, [1], (1,)):
            self.refuse("end", "a", Event("a", end, "query"))
        for end in (1, 5):
            self.assertEqual(Order([Event("a", end, "query")]).event("a").end, end)

    def test_kind(self):
        for kind in ("", "Query", "queries", None, 0, True, ["query"], ("query", "action")):
            self.refuse("kind", "a", Event("a", 1, kind))

    def test_needs(self):
        elder = [Event(name, 1, "query") for name in "abcd"]
        self.assertEqual(len(Order([*elder, Event("e", 1, "query", "abc")])), 5)
        for needs in ("abcd", "aa", "aba", "e", "f", "x", ("a", "a"), (None,), (1,), (["a"],), (("a",),)):
            self.refuse("needs", "e", *elder, Event("e", 1, "query", needs), Event("f", 1, "query"))

    def test_first_word_of_an_event(self):
        a = Event("a", 1, "query")
        self.refuse("name", "A", a, Event("A", 0, "", ("x",)))
        self.refuse("twice", "a", a, Event("a", 0, "", ("x",)))
        self.refuse("end", "b", a, Event("b", 0, "", ("x",)))
        self.refuse("kind", "b", a, Event("b", 1, "", ("x",)))
        self.refuse("needs", "b", a, Event("b", 1, "query", ("x",)))

    def test_first_event(self):
        self.refuse("needs", "a", Event("a", 1, "query", ("a",)), Event("", 1, "query"))


class Orders(Case):
    def test_none(self):
        for nothing in ((), []):
            order = Order(nothing)
            self.assert_same((order.events, order.names, len(order), list(order)), ((), (), 0, []))

    def test_events_and_names(self):
        events = list(mixed())
        order = Order(events)
        self.assertEqual(order.events, tuple(events))
        self.assertIs(type(order.events), tuple)
        self.assert_same(order.names, ("a", "b", "c", "d", "e", "f", "g"))
        self.assertEqual(len(order), 7)
        self.assertEqual([event for event in order], events)

    def test_list_is_not_kept(self):
        events = list(mixed())
        order = Order(events)
        events.pop()
        self.assertEqual(order, mixed())

    def test_equality(self):
        self.assert_equals(mixed, [Order(()), Order(mixed().events[:-1]), mixed().as_kind("g", "action"),
                                   mixed().events])

    def test_place_and_event(self):
        for place, name in enumerate("abcdefg"):
            self.assert_same(mixed().place(name), place)
            self.assertEqual(mixed().event(name), mixed().events[place])

    def test_of_end(self):
        self.assert_same(mixed().of_end(1), ("a", "c", "f", "g"))
        self.assert_same(mixed().of_end(2), ("b", "d"))
        self.assert_same(mixed().of_end(3), ("e",))
        self.assert_same(mixed().of_end(4), ())

    def test_foreign(self):
        order = mixed()
        self.assert_same([order.foreign(name) for name in "abcdefg"],
                         [(), ("a",), ("b",), ("c", "a"), ("d", "b"), ("e",), ()])
        order = Order([Event("a", 1, "query"), Event("b", 2, "query"), Event("c", 1, "query", ("b", "a"))])
        self.assert_same(order.foreign("c"), ("b",))

    def test_foreign_is_in_the_order_of_the_needs(self):
        order = Order([*[Event(name, 1, "query") for name in "abc"], Event("d", 2, "query", ("c", "a", "b"))])
        self.assert_same(order.foreign("d"), ("c", "a", "b"))

    def test_behind(self):
        order = mixed()
        self.assert_same([order.behind(name) for name in "abcdefg"],
                         [("b", "c", "d", "e", "f"), ("c", "d", "e", "f"), ("d", "e", "f"), ("e", "f"), ("f",), (), ()])

    def test_loose(self):
        order = mixed()
        self.assert_same([order.loose(name) for name in "abcdefg"],
                         [(), ("a",), ("a", "b"), ("a", "c"), ("a", "b", "c", "d"), ("e",), ()])

    def test_loose_stops_at_actions_alone(self):
        self.assert_same(chain(1, 1, 1, 1).loose("d"), ("a", "b", "c"))
        self.assert_same(chain(1, 1, 1, 1).as_kind("b", "action").loose("d"), ("b", "c"))
        self.assert_same(chain(1, 1, 1, 1).as_kind("a", "action").loose("d"), ("a", "b", "c"))

    def test_sources(self):
        order = mixed()
        self.assert_same([order.sources(name) for name in "abcdefg"],
                         [(), ("a",), ("a", "b"), ("a", "c"), ("a", "b", "c", "d"), ("e",), ()])
        self.assert_same(chain(1, 2, 1).sources("c"), ("b",))
        self.assert_same(chain(1, 2, 1).as_kind("c", "action").sources("c"), ("a", "b"))

    def test_sources_of_a_query_are_in_order(self):
        order = Order([*[Event(name, 1, "query") for name in "abc"], Event("d", 2, "query", ("c", "a", "b"))])
        self.assert_same(order.sources("d"), ("a", "b", "c"))

    def test_as_kind(self):
        order = mixed()
        self.assertEqual([event.kind for event in order.as_kind("c", "query")],
                         ["query", "query", "query", "query", "action", "query", "query"])
        self.assertEqual(order, mixed())
        self.assertEqual(order.as_kind("c", "query").as_kind("c", "action"), order)
        self.assertEqual(order.as_kind("a", "query"), order)
        self.assertEqual(order.as_kind("g", "action").event("g"), Event("g", 1, "action"))
        self.assertEqual(order.as_kind("d", "action").event("d"), Event("d", 2, "action", ("c", "a")))

    def test_as_kind_refuses(self):
        for kind in ("", None, "Query", 1, ["query"]):
            self.assert_raises(BadOrder("kind", "a"), mixed().as_kind, "a", kind)
            self.assert_raises(BadOrder("unknown", "x"), mixed().as_kind, "x", kind)

    def test_key_of(self):
        values = {"a": 5, "c": 7, "x": 9}
        self.assert_same(mixed().key_of("d", values), (7, 5))
        self.assert_same(mixed().key_of("a", {}), ())
        self.assertIsNone(mixed().key_of("e", values))
        self.assertIsNone(mixed().key_of("b", {}))
        self.assert_same(mixed().key_of("b", {"a": 0}), (0,))
        self.assertEqual(values, {"a": 5, "c": 7, "x": 9})

    def test_unknown(self):
        order = mixed()
        for name in ("x", "", "A", None, 0, True, ["a"], ("a",), {}):
            for call in (order.place, order.event, order.foreign, order.behind, order.loose, order.sources):
                self.assert_raises(BadOrder("unknown", name), call, name)
            self.assert_raises(BadOrder("unknown", name), order.key_of, name, {})
            self.assert_raises(BadOrder("unknown", name), order.as_kind, name, "query")
        self.assert_raises(BadOrder("unknown", "a"), Order(()).place, "a")


if __name__ == "__main__":
    unittest.main()
