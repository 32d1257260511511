"""Weathers of told kinds, and weathers made of two others."""

from askedtrue.errors import BadWeather
from askedtrue.grids import all_rows
from askedtrue.orders import is_between
from askedtrue.weathers import MARKS, MOST_STATES, Weather

LONGEST_WINDOW = 4


def count_weather(most, mark):
    """At most so many turns have this mark."""
    if not is_between(most, 0, MOST_STATES - 1):
        raise BadWeather("most")
    check_mark(mark)
    # The state is the number of turns that had the mark.
    steps = [(state, mark, state + 1) for state in range(most)]
    return Weather(most + 1, [*steps, *free_steps([(state, state) for state in range(most + 1)], mark)])


def window_weather(length, most, mark):
    """Of any so many turns one behind another, at most so many have this mark."""
    if not is_between(length, 1, LONGEST_WINDOW):
        raise BadWeather("length")
    if not is_between(most, 0, length):
        raise BadWeather("most")
    check_mark(mark)
    # The state is the row of the turns ahead that are seen together with the next one, 1 where the mark was.
    seen = [row for row in all_rows(length - 1, 2) if sum(row) <= most]
    numbers = {row: number for number, row in enumerate(seen)}
    steps = [(numbers[row], mark, numbers[(*row, 1)[1:]]) for row in seen if sum(row) < most]
    return Weather(len(seen), [*steps, *free_steps([(numbers[row], numbers[(*row, 0)[1:]]) for row in seen], mark)])


def burst_weather(longest, gap, mark):
    """Turns with this mark come in bursts of at most so many, with at least so many turns between two."""
    if not is_between(longest, 1, MOST_STATES - 1):
        raise BadWeather("longest")
    if not is_between(gap, 1, MOST_STATES - longest):
        raise BadWeather("gap")
    check_mark(mark)
    # The state is 0 if a burst may begin, the number of its turns within one, and then goes on with the gap's turns.
    states = longest + gap
    steps = [(state, mark, state + 1) for state in range(longest)]
    ended = (longest + 1) % states
    calm = [(0, 0), *[(state, ended) for state in range(1, longest + 1)]]
    waiting = [(state, (state + 1) % states) for state in range(longest + 1, states)]
    return Weather(states, [*steps, *free_steps([*calm, *waiting], mark)])


def check_mark(mark):
    """Raises BadWeather unless this is a mark."""
    if mark not in MARKS:
        raise BadWeather("mark")


def free_steps(pairs, mark):
    """Steps from state to state with each of the other marks."""
    return [(state, other, goal) for state, goal in pairs for other in MARKS if other != mark]


def both(one, other):
    """The rows that can go on for ever in both weathers."""
    steps = common_steps(one, other)
    lasting = lasting_pairs(steps)
    if (0, 0) not in lasting:
        raise BadWeather("never")
    pairs = reached_pairs({pair: [(mark, goal) for mark, goal in steps[pair] if goal in lasting] for pair in lasting})
    if len(pairs) > MOST_STATES:
        raise BadWeather("states")
    numbers = {pair: number for number, pair in enumerate(pairs)}
    return Weather(len(pairs), [(numbers[pair], mark, numbers[goal]) for pair in pairs
                                for mark, goal in steps[pair] if goal in numbers])


def common_steps(one, other):
    """By pairs of states of both weathers, the pairs to which equal marks lead: (mark, pair)."""
    steps = {}
    for first in range(one.states):
        for second in range(other.states):
            steps[first, second] = [(mark, (left, right)) for mark in MARKS for left in one.after((first,), mark)
                                    for right in other.after((second,), mark)]
    return steps


def lasting_pairs(steps):
    """A dict of the pairs from which equal marks can go on for ever."""
    many = len(steps) + 1
    lasting = {pair: True for pair in steps}
    while len(lasting) < many:
        many = len(lasting)
        lasting = {pair: True for pair in lasting if any([goal in lasting for _, goal in steps[pair]])}
    return lasting


def reached_pairs(steps):
    """The pairs to which steps lead from (0, 0) on, itself first."""
    found = [(0, 0)]
    at = 0
    while at < len(found):
        goals = {goal: True for _, goal in steps[found[at]]}
        found = [*found, *[goal for goal in goals if goal not in found]]
        at += 1
    return found


def either(one, other):
    """The rows that can be in one weather or in the other."""
    states = 1 + one.states + other.states
    if states > MOST_STATES:
        raise BadWeather("states")
    # The new first state does what the first states of both do, and is never come back to.
    steps = []
    for weather, ahead in ((one, 1), (other, 1 + one.states)):
        steps.extend([(ahead + state, mark, ahead + goal) for state, mark, goal in weather.steps])
        steps.extend([(0, mark, ahead + goal) for state, mark, goal in weather.steps if state == 0])
    return Weather(states, steps)
