"""Weathers: which rows of marks can be on one way, turn by turn."""

from askedtrue.errors import BadWeather
from askedtrue.orders import is_between, is_sequence

# They ascend as these strings do.
MARKS = ("clean", "corrupted", "lost")
MOST_STATES = 12


class Weather:
    """States from 0 on, and the steps by which each turn's mark leads from one to the next."""

    def __init__(self, states, steps):
        if not is_between(states, 1, MOST_STATES):
            raise BadWeather("states")
        if not are_steps(steps, states):
            raise BadWeather("steps")
        self.states = states
        self.steps = tuple(sorted([tuple(step) for step in steps]))
        if len({step[0] for step in self.steps}) < states:
            raise BadWeather("stuck")
        self._leads = leads_of(self.steps)

    def __eq__(self, other):
        return isinstance(other, Weather) and self.states == other.states and self.steps == other.steps

    def after(self, states, mark):
        """The states, ascending, to which a turn with this mark leads from any of these."""
        if mark not in MARKS:
            return ()
        return tuple(sorted({goal for state in states for goal in self._leads.get((state, mark), ())}))

    def can_be(self, row):
        """Whether this row of marks can be."""
        states = (0,)
        for mark in row:
            states = self.after(states, mark)
        return states != ()

    def each_row(self, count):
        """Yields each row of so many marks that can be, once, ascending."""
        reached = [((), (0,))]
        for _ in range(count):
            longer = [((*row, mark), self.after(states, mark)) for row, states in reached for mark in MARKS]
            reached = [(row, states) for row, states in longer if states]
        for row, _ in reached:
            yield row


def are_steps(thing, states):
    """Whether the thing is a sequence of unlike steps between so many states."""
    if not is_sequence(thing) or not all([is_step(step, states) for step in thing]):
        return False
    return len({tuple(step) for step in thing}) == len(thing)


def is_step(thing, states):
    """Whether the thing is a step (state, mark, next state); a list is let."""
    if not is_sequence(thing) or len(thing) != 3:
        return False
    return is_between(thing[0], 0, states - 1) and thing[1] in MARKS and is_between(thing[2], 0, states - 1)


def leads_of(steps):
    """The next states by state and mark."""
    leads = {}
    for state, mark, goal in steps:
        leads[state, mark] = (*leads.get((state, mark), ()), goal)
    return leads
