"""[14.7]"""

import itertools
import random
from fractions import Fraction

from askedtrue.wholes import Solutions, whole_solutions
from tests.helpers import Case


def multiples(moves, wanted):
    """The only numbers by which the moves make up the wanted row, as fractions; None if there are none or several."""
    rows = [[Fraction(move[at]) for move in moves] + [Fraction(wanted[at])] for at in range(len(wanted))]
    done = 0
    for column in range(len(moves)):
        pivot = next((at for at in range(done, len(rows)) if rows[at][column]), None)
        if pivot is None:
            return None
        rows[done], rows[pivot] = rows[pivot], rows[done]
        rows[done] = [number / rows[done][column] for number in rows[done]]
        for at in range(len(rows)):
            if at != done:
                rows[at] = [one - rows[at][column] * other for one, other in zip(rows[at], rows[done])]
        done += 1
    if any(row[-1] for row in rows[done:]):
        return None
    return [row[-1] for row in rows[:done]]


def solves(rows, rights, point):
    return all(sum(one * other for one, other in zip(row, point)) == right for row, right in zip(rows, rights))


class Wholes(Case):
    def check(self, rows, rights, wide, box):
        told = whole_solutions(rows, rights, wide)
        points = [point for point in itertools.product(range(-box, box + 1), repeat=wide) if solves(rows, rights, point)]
        if told is None:
            self.assertEqual(points, [])
            return None
        self.assertIs(type(told), Solutions)
        self.assertIs(type(told.point), tuple)
        self.assertIs(type(told.moves), tuple)
        self.assertEqual(len(told.point), wide)
        self.assertTrue(solves(rows, rights, told.point))
        for move in told.moves:
            self.assertIs(type(move), tuple)
            self.assertEqual(len(move), wide)
            self.assertTrue(solves(rows, [0] * len(rows), move))
        for point in points:
            found = multiples(told.moves, [one - other for one, other in zip(point, told.point)])
            self.assertIsNotNone(found)
            self.assertTrue(all(number.denominator == 1 for number in found))
        return told

    def test_against_a_small_box(self):
        chance = random.Random(147)
        seen = {}
        for _ in range(600):
            wide = chance.randint(0, 3)
            many = chance.randint(0, 3)
            rows = [[chance.randint(-3, 3) for _ in range(wide)] for _ in range(many)]
            point = [chance.randint(-3, 3) for _ in range(wide)]
            rights = [sum(one * other for one, other in zip(row, point)) for row in rows]
            wrong = chance.random() < 0.5 and many
            if wrong:
                rights[chance.randrange(many)] += chance.randint(1, 3)
            told = self.check(rows, rights, wide, 4)
            if not wrong:
                self.assertIsNotNone(told)
            seen[told is None] = seen.get(told is None, 0) + 1
        self.assertGreater(min(seen.values()), 80)

    def test_without_equations_everything_solves(self):
        for wide in range(4):
            told = self.check([], [], wide, 2)
            self.assertEqual(len(told.moves), wide)

    def test_wide_0(self):
        self.assert_same(whole_solutions((), (), 0).point, ())
        self.assert_same(whole_solutions((), (), 0).moves, ())
        self.assert_same(whole_solutions([[], ()], [0, 0], 0).point, ())
        self.assertIsNone(whole_solutions([()], [1], 0))
        self.assertIsNone(whole_solutions([(), ()], [0, -2], 0))

    def test_none(self):
        self.assertIsNone(whole_solutions([(2,)], [1], 1))
        self.assertIsNone(whole_solutions([(4, 6)], [9], 2))
        self.assertIsNone(whole_solutions([(1, 1), (1, -1)], [0, 1], 2))
        self.assertIsNone(whole_solutions([(0, 0)], [1], 2))
        self.assertIsNone(whole_solutions([(1, 2), (2, 4)], [1, 3], 2))

    def test_one_solution(self):
        told = whole_solutions(((1, 1), [1, -1]), (5, 1), 2)
        self.assert_same(told.point, (3, 2))
        self.assert_same(told.moves, ())

    def test_great_numbers(self):
        great = 10 ** 60
        told = self.check([(great, great + 1)], [1], 2, 1)
        self.assertEqual(len(told.moves), 1)
        self.assertIsNone(whole_solutions([(2 * great, 4 * great + 2)], [great + 1], 2))

    def test_nothing_is_changed(self):
        rows = [[1, 2], [3, 4]]
        rights = [1, 1]
        whole_solutions(rows, rights, 2)
        self.assertEqual((rows, rights), ([[1, 2], [3, 4]], [1, 1]))

    def test_result(self):
        self.assert_equals(lambda: Solutions((1,), ((2,),)), [Solutions((2,), ((2,),)), Solutions((1,), ())])
