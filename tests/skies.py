"""Weathers by chance, and what they let, straight from the words of part 13."""

import itertools

from askedtrue.weathers import Weather

MARKS = ("clean", "corrupted", "lost")


def chance_weather(chance, most=3, steps=None):
    """A weather of up to so many states, each with a few steps."""
    states = chance.randint(1, most)
    every = [(state, mark, goal) for state in range(states) for mark in MARKS for goal in range(states)]
    found = {chance.choice([step for step in every if step[0] == state]) for state in range(states)}
    found |= set(chance.sample(every, min(len(every), chance.randint(0, 3 * states) if steps is None else steps)))
    rows = [chance.choice((list, tuple))(step) for step in found]
    chance.shuffle(rows)
    return Weather(states, chance.choice((list, tuple))(rows))


def ends_of_row(weather, row):
    """All states in which a walk of steps with these marks can end, walk by walk."""
    walks = [(0,)]
    for mark in row:
        walks = [(*walk, goal) for walk in walks for state, other, goal in weather.steps
                 if state == walk[-1] and other == mark]
        walks = list({walk[-1]: walk for walk in walks}.values())
    return {walk[-1] for walk in walks}


def all_mark_rows(count):
    """All rows of so many marks, ascending."""
    return list(itertools.product(MARKS, repeat=count))


def right_rows(weather, count):
    """All rows of so many marks that can be, ascending."""
    return [row for row in all_mark_rows(count) if ends_of_row(weather, row)]


def is_held(marks):
    """Whether rows can have these marks at one held turn."""
    return marks.count("lost") in (0, len(marks)) and marks.count("clean") < len(marks)


def all_held_rows(weather, turn, kind, turns):
    """All held rows, by way of all rows, or all pairs of rows."""
    rows = right_rows(weather, turn + turns)
    if kind == "query":
        return [(row,) for row in rows if "clean" not in row[turn:]]
    by_losses = {}
    for row in rows:
        by_losses.setdefault(tuple(mark == "lost" for mark in row), []).append(row)
    return [(one, other) for alike in by_losses.values() for one in alike for other in alike
            if ("clean", "clean") not in list(zip(one, other))[turn:]]


def are_held(weather, turn, kind, rows):
    """Whether these rows are held rows, by their words."""
    if len(rows) != (1 if kind == "query" else 2) or len({len(row) for row in rows}) != 1 or len(rows[0]) < turn:
        return False
    if not all(ends_of_row(weather, row) for row in rows):
        return False
    if kind == "query":
        return "clean" not in rows[0][turn:]
    alike = all((one == "lost") == (other == "lost") for one, other in zip(*rows))
    return alike and ("clean", "clean") not in list(zip(*rows))[turn:]
