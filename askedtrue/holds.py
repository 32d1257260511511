"""Holds: for how many turns a weather can keep what is told from being asked, or from being sure."""

from askedtrue.errors import BadWeather
from askedtrue.grids import all_rows
from askedtrue.orders import KINDS, is_between, is_count, is_sequence
from askedtrue.weathers import MARKS

LAST_TURN = 200


class Held:
    """The greatest number of turns that can be held, and rows that hold so many."""

    def __init__(self, turns, rows):
        self.turns = turns
        self.rows = rows

    def __eq__(self, other):
        return isinstance(other, Held) and self.turns == other.turns and self.rows == other.rows


class Endless:
    """Rows that hold some turns, and rings that hold on for ever behind them."""

    def __init__(self, rows, rings):
        self.rows = rows
        self.rings = rings

    def __eq__(self, other):
        return isinstance(other, Endless) and self.rows == other.rows and self.rings == other.rings


class Joint:
    """The joint states of a weather for a kind, and how turns that are free or held lead on between them.

    free and held have, for each joint state, a dict from the next ones to marks, one for each row, that
    lead there. heights has for each the greatest number of turns that can be held from it on, or None.
    """

    def __init__(self, weather, kind):
        many = rows_of_kind(kind)
        self.start = (0,) * many
        self.free = joint_steps(weather, many, free_marks(many))
        self.held = joint_steps(weather, many, held_marks(many))
        self.heights = heights_of(self.held)

    def reached(self, turn):
        """For each number of turns up to this one the joint states reached, each with one to come from."""
        layers = [{self.start: None}]
        for _ in range(turn):
            last = layers[-1]
            layer = {goal: state for state in last for goal in self.free[state]}
            layers = [*layers, layer]
        return layers

    def free_turns(self, layers, state):
        """The marks of the free turns, one behind another, that lead to this joint state of the last layer."""
        found = []
        for layer in reversed(layers[1:]):
            before = layer[state]
            found.append(self.free[before][state])
            state = before
        return found[::-1]

    def can_hold(self, state, turns):
        """Whether so many turns can be held from the joint state on."""
        height = self.heights[state]
        return height is None or height >= turns

    def held_on(self, state, turns):
        """The marks of so many held turns from a joint state that can hold them."""
        found = []
        for left in reversed(range(turns)):
            goal = [goal for goal in self.held[state] if self.can_hold(goal, left)][0]
            found.append(self.held[state][goal])
            state = goal
        return found

    def endless_states(self, state):
        """The joint states through which held turns go on for ever from this one, up to the first met again."""
        found = [state]
        while found.count(found[-1]) == 1:
            goals = [goal for goal in self.held[found[-1]] if self.heights[goal] is None]
            found.append(goals[0])
        return found


def rows_of_kind(kind):
    """How many rows held rows of this kind have."""
    return 1 if kind == "query" else 2


def free_marks(many):
    """All choices of a mark for each of so many rows that can make the same thing heard: lost in all or in none."""
    choices = [tuple([MARKS[at] for at in row]) for row in all_rows(many, len(MARKS))]
    return [marks for marks in choices if is_free(marks)]


def held_marks(many):
    """All such choices at a held turn."""
    return [marks for marks in free_marks(many) if is_held(marks)]


def is_free(marks):
    """Whether rows can have these marks at one turn."""
    return marks.count("lost") in (0, len(marks))


def is_held(marks):
    """Whether a turn with these marks is held: lost, or not clean in all rows."""
    return is_free(marks) and marks.count("clean") < len(marks)


def joint_steps(weather, many, choices):
    """By joint states of so many rows, a dict from the next joint states to a choice of marks that leads there."""
    return {state: {goal: marks for marks in choices for goal in joint_goals(weather, state, marks)}
            for state in all_rows(many, weather.states)}


def joint_goals(weather, state, marks):
    """The joint states to which these marks lead from a joint state."""
    goals = [()]
    for one, mark in zip(state, marks):
        goals = [(*goal, last) for goal in goals for last in weather.after((one,), mark)]
    return goals


def heights_of(steps):
    """For each joint state the greatest number of steps from it on, or None if there is no greatest."""
    found = {}
    fresh = ends_of(steps, found)
    while fresh:
        for state in fresh:
            found[state] = 1 + max([found[goal] for goal in steps[state]], default=-1)
        fresh = ends_of(steps, found)
    return {state: found.get(state) for state in steps}


def ends_of(steps, found):
    """The joint states that are not found, but all to which they lead are."""
    return [state for state in steps if state not in found and all([goal in found for goal in steps[state]])]


def check_turn_kind(turn, kind):
    """Raises BadWeather unless these are a turn and a kind."""
    if not is_between(turn, 0, LAST_TURN):
        raise BadWeather("turn")
    check_kind(kind)


def check_kind(kind):
    """Raises BadWeather unless this is a kind."""
    if kind not in KINDS:
        raise BadWeather("kind")


def rows_made(joint, turns):
    """The rows that the marks of these turns make."""
    return tuple([tuple([marks[at] for marks in turns]) for at in range(len(joint.start))])


def held_rows(weather, turn, kind, turns):
    """Any held rows for the turn with so many held turns, or None."""
    check_turn_kind(turn, kind)
    if not is_between(turns, 0, LAST_TURN):
        raise BadWeather("turns")
    joint = Joint(weather, kind)
    layers = joint.reached(turn)
    holding = [state for state in layers[-1] if joint.can_hold(state, turns)]
    if not holding:
        return None
    return rows_made(joint, [*joint.free_turns(layers, holding[0]), *joint.held_on(holding[0], turns)])


def hold(weather, turn, kind):
    """The greatest number of turns that can be held behind this one, or that there is none."""
    check_turn_kind(turn, kind)
    return greatest_hold(Joint(weather, kind), turn)


def greatest_hold(joint, turn):
    """The hold of the turn."""
    layers = joint.reached(turn)
    states = sorted(layers[-1], key=lambda state: height_rank(joint.heights[state]))
    highest = states[-1]
    ahead = joint.free_turns(layers, highest)
    turns = joint.heights[highest]
    if turns is not None:
        return Held(turns, rows_made(joint, [*ahead, *joint.held_on(highest, turns)]))
    states = joint.endless_states(highest)
    marks = [joint.held[state][goal] for state, goal in zip(states, states[1:])]
    begin = states.index(states[-1])
    return Endless(rows_made(joint, [*ahead, *marks[:begin]]), rows_made(joint, marks[begin:]))


def height_rank(height):
    """What heights are compared by: None is greater than all numbers."""
    return (height is None, 0 if height is None else height)


def hold_fault(weather, turn, kind, told):
    """The first word that tells why hold does not return this, or None."""
    check_turn_kind(turn, kind)
    if not isinstance(told, (Held, Endless)):
        return "result"
    if not are_held_rows(weather, turn, kind, told):
        return "rows"
    if isinstance(told, Endless):
        return None if are_rings(weather, kind, told) else "rings"
    greatest = hold(weather, turn, kind)
    if isinstance(greatest, Endless) or greatest.turns > told.turns:
        return "more"
    return None


def are_rows(thing, kind):
    """Whether the thing is a sequence of as many rows of marks as the kind has, all of one length."""
    if not is_sequence(thing) or len(thing) != rows_of_kind(kind) or not all([is_row(row) for row in thing]):
        return False
    return all([len(row) == len(thing[0]) for row in thing])


def is_row(thing):
    """Whether the thing is a sequence of marks."""
    return is_sequence(thing) and all([mark in MARKS for mark in thing])


def are_held_rows(weather, turn, kind, told):
    """Whether the told rows are held rows of so many turns as told, or of any number if it is Endless."""
    if not are_rows(told.rows, kind):
        return False
    turns = told.turns if isinstance(told, Held) else len(told.rows[0]) - turn
    if not is_count(turns) or len(told.rows[0]) != turn + turns:
        return False
    marks = list(zip(*told.rows))
    if not all([is_free(choice) for choice in marks]) or not all([is_held(choice) for choice in marks[turn:]]):
        return False
    return all([weather.can_be(row) for row in told.rows])


def are_rings(weather, kind, told):
    """Whether the told rings hold on for ever behind the told rows, which are held rows."""
    if not are_rows(told.rings, kind) or len(told.rings[0]) == 0:
        return False
    if not all([is_held(choice) for choice in zip(*told.rings)]):
        return False
    # A row that goes round as often as there are states comes to one twice, so it can go on.
    return all([weather.can_be((*row, *list(ring) * weather.states)) for row, ring in zip(told.rows, told.rings)])


def joint_states(weather, turn, kind):
    """The joint states, ascending, that are reached by held rows with no held turns."""
    check_turn_kind(turn, kind)
    return tuple(sorted(Joint(weather, kind).reached(turn)[-1]))


def heights(weather, kind):
    """For each joint state the greatest number of turns that can be held from it on, or None."""
    check_kind(kind)
    return tuple(sorted(Joint(weather, kind).heights.items(), key=lambda pair: pair[0]))


def worst_hold(weather, kind):
    """The least turn whose hold is as great as that of any turn, and this hold."""
    check_kind(kind)
    joint = Joint(weather, kind)
    turns = first_turns(joint)
    greatest = max([height_rank(joint.heights[state]) for state in turns])
    turn = min([turn for state, turn in turns.items() if height_rank(joint.heights[state]) == greatest])
    return (turn, greatest_hold(joint, turn))


def first_turns(joint):
    """For each joint state that is reached at some turn the first such turn."""
    turns = {joint.start: 0}
    found = [joint.start]
    at = 0
    while at < len(found):
        state = found[at]
        fresh = [goal for goal in joint.free[state] if goal not in turns]
        for goal in fresh:
            turns[goal] = turns[state] + 1
        found.extend(fresh)
        at += 1
    return turns
