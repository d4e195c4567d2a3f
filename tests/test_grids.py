"""Section 4: grids."""

import unittest

from roundedsteps.errors import BadGrid, BadMore, NoNumber, NoRank
from roundedsteps.grids import Grid
from tests import slow
from tests.helping import Case, wrong_values

SMALL = [(base, figures, reach) for base in (2, 3, 4, 5, 10) for figures in (1, 2, 3) for reach in (0, 1, 2, 4)
         if base ** (figures + reach) < 20000]


class Making(Case):
    """What a Grid takes, and what it tells of it."""

    def test_properties(self):
        grid = Grid(10, 2, 2, 1)
        self.same([grid.base, grid.figures, grid.reach, grid.places, grid.greatest], [10, 2, 2, 1, 9900])

    def test_named_arguments(self):
        self.assertEqual(Grid(base=3, figures=2, reach=1, places=0), Grid(3, 2, 1, 0))

    def test_least_and_greatest(self):
        self.assertEqual(Grid(2, 1, 0, 0).greatest, 1)
        self.assertEqual(Grid(10, 30, 60, 30).greatest, (10 ** 30 - 1) * 10 ** 60)
        self.assertEqual(Grid(9, 4, 3, 2).greatest, (9 ** 4 - 1) * 9 ** 3)

    def test_out_of_bounds(self):
        for told in ((1, 2, 2, 1), (11, 2, 2, 1), (10, 0, 2, 1), (10, 31, 2, 1), (10, 2, -1, 1), (10, 2, 61, 1),
                     (10, 2, 2, -1), (10, 2, 2, 31), (0, 0, -1, -1)):
            self.refused_with(BadGrid, told, Grid, *told)

    def test_wrong_kinds(self):
        for value in wrong_values():
            for place in range(4):
                told = [10, 2, 2, 1]
                told[place] = value
                found = self.error_of(Grid, *told)
                self.assertIs(type(found), BadGrid)
                self.assertIs(type(found.value), tuple)
                self.assertIs(found.value[place], value)
                self.assertEqual(len(found.value), 4)

    def test_equal(self):
        self.assertTrue(Grid(10, 2, 2, 1) == Grid(10, 2, 2, 1))
        self.assertFalse(Grid(10, 2, 2, 1) != Grid(10, 2, 2, 1))
        for told in ((9, 2, 2, 1), (10, 3, 2, 1), (10, 2, 3, 1), (10, 2, 2, 0)):
            self.assertTrue(Grid(10, 2, 2, 1) != Grid(*told))
            self.assertFalse(Grid(10, 2, 2, 1) == Grid(*told))

    def test_equal_to_nothing_else(self):
        for value in wrong_values() + [(10, 2, 2, 1), 9900]:
            self.assertFalse(Grid(10, 2, 2, 1) == value)
            self.assertTrue(Grid(10, 2, 2, 1) != value)
            self.assertFalse(value == Grid(10, 2, 2, 1))


class Numbers(Case):
    """All numbers of small grids, gone through one by one."""

    def test_in(self):
        for told in SMALL:
            grid = Grid(*told, 0)
            numbers = set(slow.all_numbers(*told))
            end = grid.greatest + 30
            self.assertEqual([number for number in range(-end, end + 1) if number in grid], sorted(numbers))

    def test_wrong_values_are_not_in(self):
        for value in wrong_values() + [[0], (0,)]:
            self.assertIs(value in Grid(10, 2, 2, 1), False)
        self.assertIs(0 in Grid(10, 2, 2, 1), True)
        self.assertIs(1 in Grid(10, 2, 2, 1), True)

    def test_great_ones(self):
        grid = Grid(10, 30, 60, 0)
        self.assertIn(grid.greatest, grid)
        self.assertNotIn(grid.greatest + 10 ** 60, grid)
        self.assertNotIn(grid.greatest + 1, grid)
        self.assertNotIn(10 ** 1999, grid)
        self.assertIn(-10 ** 89, grid)
        self.assertEqual(grid.spacing(10 ** 89), 10 ** 60)
        self.assertEqual(grid.number(grid.rank(grid.greatest)), grid.greatest)

    def test_spacing(self):
        for told in SMALL:
            grid = Grid(*told, 0)
            for number in slow.all_numbers(*told):
                self.assertEqual(grid.spacing(number), slow.spacing(grid, number))

    def test_rank_and_number(self):
        for told in SMALL:
            grid = Grid(*told, 3)
            numbers = slow.all_numbers(*told)
            nought = numbers.index(0)
            for place, number in enumerate(numbers):
                self.assertEqual(grid.rank(number), place - nought)
                self.assertEqual(grid.number(place - nought), number)
            for rank in (nought + 1, -nought - 1):
                self.refused(NoRank, rank, grid.number, rank)

    def test_after_and_before(self):
        for told in SMALL:
            grid = Grid(*told, 0)
            numbers = slow.all_numbers(*told)
            self.assertEqual([grid.after(number) for number in numbers], numbers[1:] + [None])
            self.assertEqual([grid.before(number) for number in numbers], [None] + numbers[:-1])

    def test_many(self):
        for told in SMALL[::4]:
            grid = Grid(*told, 0)
            numbers = slow.all_numbers(*told)[-80:]
            for place, low in enumerate(numbers):
                for also, high in enumerate(numbers):
                    self.assertEqual(grid.many(low, high), max(0, also - place + 1))

    def test_many_over_nought(self):
        self.assertEqual(Grid(2, 2, 2, 0).many(-12, 12), 15)
        self.assertEqual(Grid(2, 2, 2, 0).many(12, -12), 0)
        self.assertEqual(Grid(2, 2, 2, 0).many(1, 0), 0)

    def test_no_number(self):
        grid = Grid(10, 2, 2, 1)
        for value in wrong_values() + [101, -995, 9901, 10000, -10 ** 50]:
            for call in (grid.spacing, grid.rank, grid.after, grid.before):
                self.refused(NoNumber, value, call, value)
            self.refused(NoNumber, value, grid.many, value, 5)
            self.refused(NoNumber, value, grid.many, 5, value)
            self.refused(NoNumber, value, grid.many, value, None)
        self.refused(NoNumber, 101, grid.many, 101, None)

    def test_no_rank(self):
        grid = Grid(10, 2, 2, 1)
        for value in wrong_values() + [280, -280, 10 ** 30]:
            self.refused(NoRank, value, grid.number, value)
        self.assertEqual([grid.number(279), grid.number(-279), grid.number(0)], [9900, -9900, 0])

    def test_named_arguments(self):
        grid = Grid(10, 2, 2, 1)
        self.assertEqual([grid.spacing(number=100), grid.rank(number=100), grid.number(rank=100),
                          grid.after(number=100), grid.before(number=100), grid.many(low=1, high=2)],
                         [10, 100, 100, 110, 99, 2])


class More(Case):
    """Grids with more figures."""

    def test_more(self):
        self.assertEqual(Grid(3, 4, 5, 6).more(0), Grid(3, 4, 5, 6))
        self.assertEqual(Grid(3, 4, 5, 6).more(figures=3), Grid(3, 7, 5, 6))
        self.assertEqual(Grid(3, 27, 5, 6).more(3), Grid(3, 30, 5, 6))

    def test_it_holds_all_numbers(self):
        for told in SMALL[::3]:
            for more in range(4):
                greater = Grid(*told, 0).more(more)
                self.assertTrue(all(number in greater for number in slow.all_numbers(*told)))

    def test_refused(self):
        for value in wrong_values() + [-1, 4]:
            self.refused(BadMore, value, Grid(3, 4, 5, 6).more, value)
        self.refused(BadMore, 3, Grid(3, 28, 5, 6).more, 3)
        self.refused(BadMore, 1, Grid(3, 30, 5, 6).more, 1)
        self.assertEqual(Grid(3, 30, 5, 6).more(0), Grid(3, 30, 5, 6))


if __name__ == '__main__':
    unittest.main()
