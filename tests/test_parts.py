"""Section 6: rows of parts."""

import unittest
from fractions import Fraction

from roundedsteps.errors import BadFour, BadRow, BadWorth, NoNumber
from roundedsteps.grids import Grid
from roundedsteps.parts import cross_signs, plain_sum, product_row, renewed, renewed_row, row_worth, shows_shortest
from tests import slow
from tests.helping import Case, same_kinds, wrong_values

GRID = Grid(10, 2, 2, 1)
SMALL = [Grid(2, 1, 4, 0), Grid(2, 2, 3, 0), Grid(3, 1, 3, 0), Grid(3, 2, 2, 0), Grid(5, 1, 2, 0), Grid(10, 1, 2, 0),
         Grid(2, 3, 0, 0), Grid(4, 1, 3, 0)]


def shortest_lengths(grid):
    """For each worth that can be reached the least length of a row of numbers of the grid."""
    numbers = slow.all_numbers(grid.base, grid.figures, grid.reach)
    lengths = {0: 0}
    last = [0]
    while last:
        fresh = []
        for worth in last:
            for number in numbers:
                if abs(worth + number) <= 2 * grid.greatest and worth + number not in lengths:
                    lengths[worth + number] = lengths[worth] + 1
                    fresh.append(worth + number)
        last = fresh
    return lengths


def sign(number):
    """The sign of a number."""
    return (number > 0) - (number < 0)


class Rows(Case):
    """Worths and plain sums."""

    def test_row_worth(self):
        self.same(row_worth(GRID, ()), 0)
        self.same(row_worth(GRID, (9900,) * 100), 990000)
        self.same(row_worth(grid=GRID, row=(-99, 9900, 120)), 9921)

    def test_plain_sum(self):
        self.same(plain_sum(GRID, ()), (0, ()))
        self.same(plain_sum(GRID, (45,)), (45, ()))
        self.same(plain_sum(GRID, (990, 45)), (1000, (35,)))
        self.same(plain_sum(GRID, (1,) * 100), (100, (0,) * 99))
        self.same(plain_sum(grid=GRID, row=(9900, 99)), None)
        self.same(plain_sum(GRID, (9900, 99, -990)), None)
        self.same(plain_sum(GRID, (9900, 49, 1)), (9900, (49, 1)))

    def test_sum_and_left_are_of_the_same_worth(self):
        for grid in SMALL:
            numbers = slow.all_numbers(grid.base, grid.figures, grid.reach)
            for at in range(len(numbers)):
                row = tuple(numbers[at::3][:5])
                told = plain_sum(grid, row)
                total = Fraction(row[0])
                for number in row[1:]:
                    total = None if total is None else slow.rounded(grid, total + number, 'near')
                if total is None:
                    self.assertIs(told, None)
                    continue
                self.assertEqual(told[0], total)
                self.assertEqual(told[0] + sum(told[1]), sum(row))
                self.assertEqual(len(told[1]), len(row) - 1)

    def test_refused(self):
        rows = ((), (1,))
        wrong = [value for value in wrong_values() if not any(same_kinds(value, row) for row in rows if value == row)]
        for value in wrong + [5, [990, 45], (101,), (1, True), (0,) * 101, (1, (2,)), (10000,)]:
            for call in (row_worth, plain_sum, renewed_row):
                self.refused(BadRow, value, call, GRID, value)


class Renewed(Case):
    """The renewed rows, and that none is shorter."""

    def test_nought(self):
        self.same(renewed(GRID, 0), ())
        self.same(renewed_row(GRID, ()), ())
        self.same(renewed_row(GRID, (5, -5)), ())

    def test_all_worths_of_small_grids(self):
        for grid in SMALL:
            lengths = shortest_lengths(grid)
            for worth in range(-grid.greatest, grid.greatest + 1):
                row = renewed(grid, worth)
                left = worth
                for number in row:
                    self.assertEqual(number, slow.rounded(grid, Fraction(left), 'near'))
                    left -= number
                self.assertEqual(left, 0)
                self.assertEqual(len(row), lengths[worth])
                self.assertTrue(shows_shortest(grid, worth, row))
                self.assertEqual(sign(worth), sign(row[0]) if row else 0)

    def test_each_number_is_small_beside_the_one_ahead(self):
        for worth in range(1, 9901, 7):
            row = renewed(GRID, worth)
            for number, behind in zip(row, row[1:]):
                self.assertLessEqual(2 * abs(behind), GRID.spacing(number))

    def test_the_longest_rows(self):
        row = renewed(Grid(2, 1, 60, 0), sum(4 ** k for k in range(30)))
        self.assertEqual(len(row), 30)

    def test_renewed_row(self):
        self.same(renewed_row(GRID, (990, 45, -7)), (1000, 28))
        self.same(renewed_row(GRID, (9900, 1)), None)
        self.same(renewed_row(GRID, (-9900, -1)), None)
        self.same(renewed_row(grid=GRID, row=(9900, 1, -1)), (9900,))

    def test_refused_worths(self):
        for value in wrong_values() + [9901, -9901, 10 ** 40]:
            self.refused(BadWorth, value, renewed, GRID, value)
            self.refused(BadWorth, value, shows_shortest, GRID, value, None)
        self.assertEqual(renewed(grid=GRID, worth=9900), (9900,))
        self.assertEqual(renewed(GRID, -9900), (-9900,))

    def test_shows_shortest(self):
        self.assertIs(shows_shortest(GRID, 1028, (1000, 28)), True)
        self.assertIs(shows_shortest(grid=GRID, worth=1028, value=(28, 1000)), True)
        self.assertIs(shows_shortest(GRID, 0, ()), True)
        self.assertIs(shows_shortest(GRID, 0, (0,)), False)
        self.assertIs(shows_shortest(GRID, 1, (1,)), True)
        self.assertIs(shows_shortest(GRID, 1028, (1000, 27)), False)
        self.assertIs(shows_shortest(GRID, 1028, (1028,)), False)
        self.assertIs(shows_shortest(GRID, 5000, (5000, 0)), False)
        for value in wrong_values() + [[1000, 28], (1000, True), (1,) * 101, 1028]:
            self.assertIs(shows_shortest(GRID, 1028, value), False)
        self.assertIs(shows_shortest(GRID, 1, (True,)), False)


class Products(Case):
    """Products as rows, and signs of differences of products."""

    def test_product_row(self):
        for grid in SMALL:
            numbers = slow.all_numbers(grid.base, grid.figures, grid.reach)
            for one in numbers:
                for other in numbers:
                    row = product_row(grid, one, other)
                    if abs(one * other) > grid.greatest:
                        self.assertIs(row, None)
                    else:
                        self.assertEqual(row, renewed(grid, one * other))
                        self.assertLessEqual(len(row), 2)

    def test_product_refused(self):
        for value in wrong_values() + [101, -10000]:
            self.refused(NoNumber, value, product_row, GRID, value, None)
            self.refused(NoNumber, value, product_row, GRID, 0, value)
        self.assertEqual(product_row(grid=GRID, one=-99, other=100), (-9900,))
        self.assertIs(product_row(GRID, 990, 990), None)

    def test_cross_signs(self):
        for grid in (Grid(2, 2, 2, 0), Grid(3, 1, 1, 5)):
            numbers = slow.all_numbers(grid.base, grid.figures, grid.reach)
            for a in numbers:
                for b in numbers:
                    for c in numbers:
                        for d in numbers[::2]:
                            parts = [slow.rounded(grid, Fraction(part), 'near') for part in (a * d, b * c)]
                            plain = None if None in parts else sign(parts[0] - parts[1])
                            wanted = (sign(a * d - b * c), plain)
                            self.assertEqual(cross_signs(grid, (a, b, c, d)), wanted)
                            self.assertIn(plain, (None, 0, wanted[0]))

    def test_cross_signs_over(self):
        self.same(cross_signs(grid=GRID, four=(990, 1, 1, 990)), (1, None))
        self.same(cross_signs(GRID, (1, 990, 990, 1)), (-1, None))
        self.same(cross_signs(GRID, (1, 2, 2, 4)), (0, 0))

    def test_four_refused(self):
        for value in wrong_values() + [(1, 2, 3), (1, 2, 3, 4, 5), [1, 2, 3, 4], (1, 2, 3, True), (1, 2, 3, 101), 1,
                                       (1, 2, 3, (4,)), ('1', 2, 3, 4)]:
            self.refused(BadFour, value, cross_signs, GRID, value)


if __name__ == '__main__':
    unittest.main()
