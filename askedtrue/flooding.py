"""The program of a plan in a net with rings: it sends all copies on, and asks all keys that come out of them."""

from askedtrue.orders import is_between
from askedtrue.plays import answers_of, keys_out
from askedtrue.tables import is_copy, is_within, with_answer


class Flood:
    """What the program keeps at one end: its table, copies of the other ends, and what it is about to ask."""

    def __init__(self, plan, end, table, kept, due):
        self.plan = plan
        self.end = end
        self.table = table
        self.kept = kept
        self.due = due

    def packet(self):
        """All copies that are kept, with their ends, ascending."""
        pairs = [(other, copy) for other, copies in self.kept.items() for copy in copies]
        return tuple(sorted([(self.end, self.table), *pairs]))

    def hear(self, packet):
        """The Flood that has heard this packet, too."""
        news = self._news(packet)
        kept = {other: copies for other, copies in self.kept.items()}
        for other, copy in news:
            kept[other] = with_copy(kept[other], copy)
        return Flood(self.plan, self.end, self.table, kept, None if news else self.due)

    def ready(self):
        """This Flood with what it is about to ask worked out."""
        if self.due is not None:
            return self
        return Flood(self.plan, self.end, self.table, self.kept, self._first_due())

    def answered(self, name, key, value):
        """The Flood that has got this answer."""
        # An answer brings no new key of its own event and of those ahead of it: the rest stays due.
        due = self.due[1:] if len(self.due) > 1 else None
        return Flood(self.plan, self.end, with_answer(self.table, name, key, value), self.kept, due)

    def _news(self, packet):
        """The pairs that are taken of a packet, without those of copies that are kept already."""
        if not isinstance(packet, tuple):
            return []
        pairs = [thing for thing in packet if is_pair_of_other(self.plan, self.end, thing)]
        # Looked at first, since it is quick: what equals a kept copy changes nothing, be it a copy itself or not.
        fresh = [(other, thing) for other, thing in pairs if thing not in self.kept[other]]
        return [(other, thing) for other, thing in fresh if is_copy(self.plan.order, other, thing)]

    def _first_due(self):
        """What is to be asked of the first event of which anything is."""
        order = self.plan.order
        own = answers_of(self.table)
        answers = {other: [answers_of(copy) for copy in copies] for other, copies in self.kept.items()}
        keys = keys_out(order, self.end, own, answers)
        asked = {name: True for name, _, _ in self.table}
        for name in order.of_end(self.end):
            due = [(name, key) for key in sorted(keys[name]) if (name, key) not in own]
            if order.event(name).kind == "action":
                due = [] if name in asked else due[:1]
            if due:
                return tuple(due)
        return ()


def is_pair_of_other(plan, end, thing):
    """Whether the thing is a tuple of two whose first is another end of the net."""
    if not isinstance(thing, tuple) or len(thing) != 2:
        return False
    return is_between(thing[0], 1, plan.net.ends) and thing[0] != end


def with_copy(copies, copy):
    """The copies with this one more, without those within another one."""
    if any([is_within(copy, other) for other in copies]):
        return copies
    return (*[other for other in copies if not is_within(other, copy)], copy)


def flooder(plan):
    """A program for all ends of the plan; its memory is a Flood."""
    def program(memory, word):
        if word[0] == "begin":
            others = {end: () for end in range(1, plan.net.ends + 1) if end != word[1]}
            return (Flood(plan, word[1], (), others, None), None)
        if word[0] == "tell":
            return (memory, memory.packet())
        if word[0] == "heard":
            return (memory.hear(word[3]), None)
        if word[0] == "answer":
            memory = memory.answered(word[1], word[2], word[3])
        memory = memory.ready()
        return (memory, memory.due[0] if memory.due else None)
    return program
