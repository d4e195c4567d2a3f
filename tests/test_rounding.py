"""Section 5: rounding."""

import unittest
from fractions import Fraction

from roundedsteps.errors import BadFraction, BadMore, BadWay, NoNumber
from roundedsteps.grids import Grid
from roundedsteps.rounding import around, is_tie, rest, rounded, split_sum
from tests import slow
from tests.helping import Case, wrong_values

WAYS = ('near', 'down', 'up', 'zero')
GRIDS = [Grid(2, 1, 0, 0), Grid(2, 2, 3, 0), Grid(3, 1, 2, 4), Grid(3, 2, 2, 0), Grid(5, 1, 1, 0), Grid(10, 1, 1, 0),
         Grid(7, 1, 1, 2), Grid(4, 2, 1, 0)]


def some_worths(grid):
    """Tops and bottoms from far below the least number to far above the greatest one."""
    end = grid.greatest * grid.base
    for bottom in (1, 2, 3, 4):
        step = max(1, end * bottom // 120)
        for top in range(-end * bottom, end * bottom + 1, step):
            yield top, bottom
        for top in range(-40, 41):
            yield top, bottom
        for top in range((grid.greatest - 3) * bottom, (grid.greatest + 3) * bottom):
            yield top, bottom


class Rounded(Case):
    """Held against the slow reckoning, over all ways and figures more."""

    def test_rounded_and_rest(self):
        for grid in GRIDS:
            for top, bottom in some_worths(grid):
                for way in WAYS:
                    for more in range(4):
                        worth = Fraction(top, bottom)
                        wanted = slow.rounded(grid, worth, way, more)
                        self.same(rounded(grid, top, bottom, way, more), wanted)
                        left = None if wanted is None else slow.pair_of(worth - wanted)
                        self.same(rest(grid, top, bottom, way, more), left)

    def test_around_and_is_tie(self):
        for grid in GRIDS:
            for top, bottom in some_worths(grid):
                for more in range(4):
                    step = slow.spacing(grid, Fraction(top, bottom), more)
                    below = Fraction(top, bottom) // step * step
                    above = -(-Fraction(top, bottom) // step * step)
                    self.assertEqual(around(grid, top, bottom, more), (below, above))
                    self.assertIs(is_tie(grid, top, bottom, more),
                                  below != above and 2 * Fraction(top, bottom) == below + above)

    def test_numbers_stay(self):
        for grid in GRIDS:
            for number in slow.all_numbers(grid.base, grid.figures, grid.reach):
                for way in WAYS:
                    for more in range(4):
                        self.assertEqual(rounded(grid, number * 6, 6, way, more), number)
                        self.assertEqual(rest(grid, number, 1, way, more), (0, 1))

    def test_sequence_is_kept(self):
        for grid in GRIDS[:6]:
            end = 2 * grid.greatest
            for way in WAYS:
                found = [rounded(grid, top, 4, way, 0) for top in range(-4 * end, 4 * end)]
                told = [number for number in found if number is not None]
                self.assertEqual(told, sorted(told))

    def test_rests(self):
        grid = Grid(3, 2, 2, 0)
        for top in range(-400, 400):
            spacing = slow.spacing(grid, Fraction(top, 7))
            self.assertLessEqual(abs(Fraction(*rest(grid, top, 7, 'near', 0))), Fraction(spacing, 2))
            self.assertGreaterEqual(rest(grid, top, 7, 'down', 0)[0], 0)
            self.assertLessEqual(rest(grid, top, 7, 'up', 0)[0], 0)
            self.assertGreaterEqual(rest(grid, top, 7, 'zero', 0)[0] * top, 0)

    def test_ties(self):
        self.assertEqual([rounded(Grid(2, 3, 4, 0), top, 1, 'near', 0) for top in (9, 11, 13, 15, -9, -11)],
                         [8, 12, 12, 16, -8, -12])
        self.assertEqual([rounded(Grid(3, 1, 0, 0), top, 2, 'near', 0) for top in (1, 3, -1, -3, 5)], [0, 2, 0, -2, 2])
        self.assertEqual([rounded(Grid(10, 1, 1, 0), 5, 10, 'near', 0), rounded(Grid(10, 1, 1, 0), 19, 2, 'near', 0)],
                         [0, 10])
        self.assertIs(is_tie(Grid(3, 1, 0, 0), 5, 2, 0), True)

    def test_near_twice_is_not_near_once(self):
        grid = Grid(10, 1, 2, 0)
        self.assertEqual(rounded(grid, 145, 1, 'near', 0), 100)
        self.assertEqual(rounded(grid, 155, 1, 'near', 1), 160)
        self.assertEqual(rounded(grid, 254, 1, 'near', 0), 300)
        self.assertEqual(rounded(grid, rounded(grid, 254, 1, 'near', 1), 1, 'near', 0), 200)

    def test_over(self):
        grid = Grid(10, 2, 2, 1)
        self.assertEqual([rounded(grid, 9949, 1, 'near', 0), rounded(grid, 9950, 1, 'near', 0)], [9900, None])
        self.assertEqual([rounded(grid, 99999, 10, 'down', 0), rounded(grid, 99001, 10, 'up', 0)], [9900, None])
        self.assertEqual([rounded(grid, -99999, 10, 'down', 0), rounded(grid, -99999, 10, 'up', 0)], [None, -9900])
        self.assertEqual([rounded(grid, 10000, 1, way, 0) for way in WAYS], [None] * 4)
        self.assertEqual([rounded(grid, 99990, 1, way, 1) for way in WAYS], [None, 99900, None, 99900])
        self.assertEqual([rounded(grid, 100000, 1, way, 1) for way in WAYS], [None] * 4)
        self.assertEqual([rounded(grid, 99900, 1, way, 1) for way in WAYS], [99900] * 4)
        self.assertIs(rest(grid, 9950, 1, 'near', 0), None)
        self.assertEqual(around(grid, 10001, 1, 0), (10000, 11000))
        self.assertIs(is_tie(grid, 10500, 1, 0), True)

    def test_least_figures_and_no_reach(self):
        grid = Grid(2, 1, 0, 0)
        self.assertEqual([rounded(grid, top, 2, 'near', 0) for top in range(-4, 5)],
                         [None, None, -1, 0, 0, 0, 1, None, None])

    def test_most_figures_and_more(self):
        grid = Grid(10, 30, 60, 30)
        self.assertEqual(rounded(grid, 10 ** 33 - 1, 1, 'near', 3), 10 ** 33 - 1)
        self.assertEqual(rounded(grid, 10 ** 33 - 1, 1, 'near', 0), 10 ** 33)
        self.assertEqual(rounded(grid, 10 ** 1900, 10 ** 1850, 'near', 0), 10 ** 50)
        self.assertIs(rounded(grid, 10 ** 1900, 1, 'near', 3), None)

    def test_named_arguments(self):
        grid = Grid(10, 2, 2, 1)
        self.assertEqual(rounded(grid=grid, top=199, bottom=2, way='down', more=0), 99)
        self.assertEqual(rest(grid=grid, top=199, bottom=2, way='down', more=0), (1, 2))
        self.assertEqual(is_tie(grid=grid, top=199, bottom=2, more=0), True)
        self.assertEqual(around(grid=grid, top=199, bottom=2, more=0), (99, 100))
        self.assertEqual(split_sum(grid=grid, one=1, other=2), (3, 0))


class Refused(Case):
    """Wrong arguments, the first error first."""

    def test_fractions(self):
        grid = Grid(10, 2, 2, 1)
        for value in wrong_values():
            for top, bottom in ((value, 1), (1, value), (value, value)):
                for call, told in ((rounded, ('near', 0)), (rest, ('x', 9)), (is_tie, (0,)), (around, (None,))):
                    found = self.error_of(call, grid, top, bottom, *told)
                    self.assertIs(type(found), BadFraction)
                    self.assertIs(type(found.value), tuple)
                    self.assertIs(found.value[0], top)
                    self.assertIs(found.value[1], bottom)
        for bottom in (0, -1):
            self.refused_with(BadFraction, (1, bottom), rounded, grid, 1, bottom, 'x', None)
            self.refused_with(BadFraction, (1, bottom), rest, grid, 1, bottom, 'x', None)
            self.refused_with(BadFraction, (1, bottom), is_tie, grid, 1, bottom, None)
            self.refused_with(BadFraction, (1, bottom), around, grid, 1, bottom, None)

    def test_ways(self):
        for value in wrong_values() + ['Near', 'near ', 'nearest', 0, ('near',)]:
            for call in (rounded, rest):
                self.refused(BadWay, value, call, Grid(10, 2, 2, 1), 1, 2, value, 4)

    def test_more(self):
        for value in wrong_values() + [-1, 4]:
            for call in (rounded, rest):
                self.refused(BadMore, value, call, Grid(10, 2, 2, 1), 1, 2, 'up', value)
            for call in (is_tie, around):
                self.refused(BadMore, value, call, Grid(10, 2, 2, 1), 1, 2, value)


class Split(Case):
    """Sums and what is left of them."""

    def test_all_sums_of_small_grids(self):
        for grid in GRIDS[:6]:
            numbers = slow.all_numbers(grid.base, grid.figures, grid.reach)
            for one in numbers:
                for other in numbers:
                    total = slow.rounded(grid, Fraction(one + other), 'near')
                    if total is None:
                        self.assertIs(split_sum(grid, one, other), None)
                        continue
                    left = one + other - total
                    self.same(split_sum(grid, one, other), (total, left))
                    self.assertIn(left, grid)
                    self.assertLessEqual(abs(left), min(abs(one), abs(other)))

    def test_refused(self):
        grid = Grid(10, 2, 2, 1)
        for value in wrong_values() + [101, 10000]:
            self.refused(NoNumber, value, split_sum, grid, value, None)
            self.refused(NoNumber, value, split_sum, grid, 1, value)


if __name__ == '__main__':
    unittest.main()
