"""The program of a plan: it asks each event by its earliest time, and no action falsely."""

from askedtrue.ears import ear_of
from askedtrue.lots import could
from askedtrue.orders import is_whole
from askedtrue.plays import answers_of, keys_out
from askedtrue.sureness import values_by_tallies
from askedtrue.tables import is_copy, with_answer


class Teller:
    """The program at one end: it sees its own answers and the packets that come, and never a world."""

    def __init__(self, plan, end, table=(), heard=()):
        self.plan = plan
        self.end = end
        self.table = tuple(table)
        told = {other: tuple(things) for other, things in heard}
        others = [other for other in range(1, plan.net.ends + 1) if other != end]
        self.heard = tuple([(other, told.get(other, ())) for other in others])
        self._ears = {other: ear_of(things) for other, things in self.heard}
        # Whether all queries that come out are known to be asked, and what is known to be due first.
        self._quiet = False
        self._due = None

    def __eq__(self, other):
        return (isinstance(other, Teller) and self.plan == other.plan and self.end == other.end
                and self.table == other.table and self.heard == other.heard)

    def copies_of(self, other):
        """All copies heard of the other end, each as often as it was heard."""
        return tuple([thing for end, things in self.heard for thing in things if end == other and thing is not None])

    def sure(self, name):
        """The value that the event is sure to have, or None."""
        self.plan.order.place(name)
        return self._sure_values().get(name)

    def due_asks(self):
        """The pairs (name, key) that would be asked now."""
        return tuple([ask for row in self._due_rows() for ask in row])

    def next_ask(self):
        """The first of the asks that are due, or None."""
        due = self._first_due() if self._due is None else self._due
        return due[0] if due else None

    def ready(self):
        """This Teller with its next ask worked out."""
        if self._due is not None:
            return self
        other = self._changed(self.table, self.heard, self._ears)
        other._quiet = self._quiet
        other._due = other._first_due()
        other._quiet = not other._due
        return other

    def answered(self, name, key, value):
        """The Teller that has got this answer."""
        other = self._changed(with_answer(self.table, name, key, value), self.heard, self._ears)
        # An answer brings no new key of its own event and of those ahead of it: the rest stays due.
        if self._due and self._due[0] == (name, key) and len(self._due) > 1:
            other._due = self._due[1:]
        return other

    def packet(self, way):
        """The packet for a way that leaves the end: the last that is known of each end behind it."""
        last = {end: things[-1] for end, things in self.heard if things}
        last[self.end] = self.table
        return tuple([(end, last.get(end)) for end in self.plan.net.behind(way)])

    def hear(self, way, packet):
        """The Teller that has heard this packet from a way that comes to the end."""
        news = heard_things(self.plan.order, self.plan.net.behind(way), packet)
        heard = tuple([(end, (*things, news[end]) if end in news else things) for end, things in self.heard])
        ears = {end: ear.hear(news[end]) if news.get(end) is not None else ear for end, ear in self._ears.items()}
        other = self._changed(self.table, heard, ears)
        other._quiet = self._quiet and all([ears[end].kept == ear.kept for end, ear in self._ears.items()])
        return other

    def _changed(self, table, heard, ears):
        other = Teller(self.plan, self.end)
        other.table = table
        other.heard = heard
        other._ears = ears
        return other

    def _sure_values(self):
        net = self.plan.net
        tallies = {other: ear.counts for other, ear in self._ears.items()}
        most = {other: could(net, self.plan.budgets, net.route(other, self.end)) for other in tallies}
        return values_by_tallies(self.plan.order, self.end, self.table, tallies, most)

    def _due_rows(self):
        """For each event of the end, in order, what is due of it."""
        order = self.plan.order
        own = answers_of(self.table)
        answers = {other: ear.answers for other, ear in self._ears.items()}
        keys = {} if self._quiet else keys_out(order, self.end, own, answers)
        asked = {name: True for name, _, _ in self.table}
        names = order.of_end(self.end)
        waiting = [name for name in names if order.event(name).kind == "action" and name not in asked]
        values = self._sure_values() if waiting else {}
        rows = []
        for name in names:
            if order.event(name).kind == "query":
                rows.append([(name, key) for key in sorted(keys.get(name, {})) if (name, key) not in own])
            elif name in waiting and order.key_of(name, values) is not None:
                rows.append([(name, order.key_of(name, values))])
        return rows

    def _first_due(self):
        """What is due of the first event of which anything is."""
        for row in self._due_rows():
            if row:
                return tuple(row)
        return ()


def heard_things(order, ends, packet):
    """By end, what is heard of each of these ends: a copy, or None."""
    if not is_packet(ends, packet):
        return {end: None for end in ends}
    return {end: pair[1] if is_copy(order, end, pair[1]) else None for end, pair in zip(ends, packet)}


def is_packet(ends, thing):
    """Whether the thing is a tuple of one pair for each of these ends, in their order."""
    if not isinstance(thing, tuple) or len(thing) != len(ends):
        return False
    return all([is_pair_of(end, pair) for end, pair in zip(ends, thing)])


def is_pair_of(end, thing):
    """Whether the thing is a tuple of two whose first is this end."""
    return isinstance(thing, tuple) and len(thing) == 2 and is_whole(thing[0]) and thing[0] == end


def teller(plan):
    """A program for all ends of the plan; its memory is a Teller."""
    def program(memory, word):
        if word[0] == "begin":
            return (Teller(plan, word[1]), None)
        if word[0] == "tell":
            return (memory, memory.packet(word[2]))
        if word[0] == "heard":
            return (memory.hear(word[2], word[3]), None)
        if word[0] == "answer":
            memory = memory.answered(word[1], word[2], word[3])
        memory = memory.ready()
        return (memory, memory.next_ask())
    return program
