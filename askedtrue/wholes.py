"""Equations in whole numbers, solved exactly."""


class Solutions:
    """A point that solves all equations, and moves: each solution is the point plus whole multiples of them."""

    def __init__(self, point, moves):
        self.point = point
        self.moves = moves

    def __eq__(self, other):
        return isinstance(other, Solutions) and self.point == other.point and self.moves == other.moves


class Lever:
    """A row of whole numbers by which the unknowns can be moved, and by how much each equation is moved by it."""

    def __init__(self, unknowns, sums):
        self.unknowns = unknowns
        self.sums = sums

    def less(self, other, times):
        """This lever less so many times the other one."""
        return Lever(plus(self.unknowns, other.unknowns, -times), plus(self.sums, other.sums, -times))


def plus(row, other, times):
    """The row plus so many times the other one."""
    return tuple([number + times * more for number, more in zip(row, other)])


def whole_solutions(rows, rights, wide):
    """All solutions of the equations in so many whole numbers, or None if there are none."""
    levers = [Lever(tuple([int(other == place) for other in range(wide)]), tuple([row[place] for row in rows]))
              for place in range(wide)]
    point = (0,) * wide
    left = tuple(rights)
    for at in range(len(rows)):
        levers, pivot = parted_levers(levers, at)
        if pivot is None:
            if left[at] != 0:
                return None
            continue
        # All later levers leave this equation as it is, so the pivot alone must make up what is left of it.
        times = left[at] // pivot.sums[at]
        point = plus(point, pivot.unknowns, times)
        left = plus(left, pivot.sums, -times)
        if left[at] != 0:
            return None
    return Solutions(point, tuple([lever.unknowns for lever in levers]))


def parted_levers(levers, at):
    """Levers that leave the equation as it is, and one that does not, or None; together they move as much as these."""
    idle = [lever for lever in levers if lever.sums[at] == 0]
    busy = [lever for lever in levers if lever.sums[at] != 0]
    while len(busy) > 1:
        sizes = [abs(lever.sums[at]) for lever in busy]
        place = sizes.index(min(sizes))
        least = busy[place]
        rest = [lever.less(least, lever.sums[at] // least.sums[at]) for lever in [*busy[:place], *busy[place + 1:]]]
        idle = [*idle, *[lever for lever in rest if lever.sums[at] == 0]]
        busy = [least, *[lever for lever in rest if lever.sums[at] != 0]]
    return (idle, busy[0] if busy else None)
