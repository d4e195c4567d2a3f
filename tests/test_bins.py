"""Section 28: levels, rows and bins."""

import random
import unittest

from roundedsteps.bins import binned, exact_level, shows_exact_level
from roundedsteps.errors import BadMany, BadNumber, BadRow, TooGreat
from roundedsteps.grids import Grid
from roundedsteps.rounding import rounded
from tests import slow
from tests.helping import Case, variants, wrong_values

TINY = Grid(2, 3, 4, 0)


def fits(grid, many, greatest, level):
    """Whether all sums of multiples at a level are numbers, all of them gone through."""
    unit = grid.base ** level
    most = greatest // unit
    numbers = set(slow.all_numbers(grid.base, grid.figures, grid.reach))
    return all(times * unit in numbers for times in range(-many * most, many * most + 1))


def level_of(grid, many, greatest):
    level = 0
    while not fits(grid, many, greatest, level):
        level += 1
    return level


def shows(grid, many, greatest, value):
    """Whether any value is what exact_level tells."""
    if type(value) is not tuple or len(value) != 2 or type(value[0]) is not int or value[0] != level_of(grid, many, greatest):
        return False
    level, row = value
    if type(row) is not tuple or level == 0:
        return row == ()
    unit = grid.base ** (level - 1)
    if len(row) > many or any(type(part) is not int or part % unit or abs(part) > greatest for part in row):
        return False
    return sum(row) not in slow.all_numbers(grid.base, grid.figures, grid.reach)


def some_levels(chance):
    """A small grid, how many numbers, and the greatest one."""
    grid = Grid(chance.choice([2, 2, 3, 4, 10]), chance.randint(1, 4), chance.randint(0, 4), chance.choice([0, 1]))
    last = grid.rank(grid.greatest)
    many = chance.choice([1, 1, 2, 2, 3, 4, 7, 30])
    return grid, many, grid.number(chance.choice([1, last, chance.randint(1, last), chance.randint(1, last)]))


class Against(Case):
    """Held against all sums of multiples."""

    def test_exact_level(self):
        chance = random.Random(221)
        levels = set()
        for _ in range(400):
            grid, many, greatest = some_levels(chance)
            if many * greatest > 200000:
                continue
            value = exact_level(grid, many, greatest)
            levels.add(min(3, value[0]))
            self.assertTrue(shows(grid, many, greatest, value), (grid.base, grid.figures, grid.reach, many, greatest, value))
            for part in variants(chance, value, 10) + [(level, value[1]) for level in range(value[0] + 3)]:
                self.assertIs(shows_exact_level(grid, many, greatest, part), shows(grid, many, greatest, part))
        self.assertEqual(levels, {0, 1, 2, 3})

    def test_any_rows(self):
        chance = random.Random(222)
        found = {True: 0, False: 0}
        for _ in range(400):
            grid, many, greatest = some_levels(chance)
            level = exact_level(grid, many, greatest)[0]
            if level == 0 or many * greatest > 20000:
                continue
            unit = grid.base ** (level - 1)
            most = greatest // unit
            for _ in range(4):
                row = tuple(unit * chance.randint(-most, most) + chance.choice([0, 0, 0, 1]) for _ in range(chance.randint(0, many + 1)))
                so = shows(grid, many, greatest, (level, row))
                self.assertIs(shows_exact_level(grid, many, greatest, (level, row)), so)
                found[so] += 1
            row = (most * unit,) * many
            self.assertIs(shows_exact_level(grid, many, greatest, (level, row)), shows(grid, many, greatest, (level, row)))
        self.assertGreater(min(found.values()), 30)

    def test_binned(self):
        chance = random.Random(223)
        for _ in range(300):
            grid, many, greatest = some_levels(chance)
            if many * greatest > 200000:
                continue
            last = grid.rank(greatest)
            numbers = tuple(grid.number(chance.randint(-last, last)) for _ in range(many))
            unit = grid.base ** level_of(grid, many, greatest)
            cut = [(1 if number > 0 else -1) * (abs(number) - abs(number) % unit) for number in numbers]
            found = binned(grid, numbers, greatest)
            self.same(found, (sum(cut), sum(numbers) - sum(cut)))
            self.same(binned(grid, numbers[::-1], greatest), found)
            self.same(binned(grid, tuple(-number for number in numbers), greatest), (-found[0], -found[1]))

    def test_cut_numbers_have_one_sum_in_all_orders(self):
        chance = random.Random(224)
        for _ in range(150):
            grid, many, greatest = some_levels(chance)
            if many < 2:
                continue
            last = grid.rank(greatest)
            numbers = [grid.number(chance.randint(-last, last)) for _ in range(many)]
            unit = grid.base ** exact_level(grid, many, greatest)[0]
            parts = [(1 if number > 0 else -1) * (abs(number) - abs(number) % unit) for number in numbers]
            worth = binned(grid, tuple(numbers), greatest)[0]
            while len(parts) > 1:
                chance.shuffle(parts)
                parts = [rounded(grid, parts[0] + parts[1], 1, 'near', 0)] + parts[2:]
            self.assertEqual(parts, [worth])


class Edges(Case):
    """What the section names."""

    def test_the_example(self):
        self.same([exact_level(TINY, 3, 7)[0], binned(TINY, (6, 3, 1), 7)], [2, (4, 6)])
        for row, so in (((6, 6, 6), True), ((-6, -6, -6), True), ((6, 6, 2), False), ((6, 6), False), ((6, 6, 6, 0), False), ((6, 7, 5), False),
                        ((8, 6, 4), False), ([6, 6, 6], False), ((), False), ((6, 6, True), False), (18, False), (('6', 6, 6), False)):
            self.same(shows_exact_level(TINY, 3, 7, (2, row)), so)
        for value in ((1, (6, 6, 6)), (3, (4, 4, 4)), (2,), (2, (6, 6, 6), 1), ('2', (6, 6, 6)), (0, ()), None, [2, (6, 6, 6)]):
            self.same(shows_exact_level(TINY, 3, 7, value), False)

    def test_multiples_that_are_no_numbers_themselves(self):
        # Below 28 there is 27, no number of the grid: one of it is such a sum.
        self.same(exact_level(TINY, 1, 28)[0], 2)
        self.same([shows_exact_level(TINY, 1, 28, (2, row)) for row in ((18,), (26,), (28,), (27,), (-22,), (24,))], [True, True, False, False, True, False])
        # And 0 is the only multiple that is left for a level beyond the greatest.
        top = Grid(2, 1, 0, 0)
        self.same([exact_level(top, 1, 1)[0], exact_level(top, 2, 1)[0], exact_level(top, 1000, 1)[0]], [0, 1, 1])
        self.same(binned(top, (1, 1, -1), 1), (0, 1))

    def test_one_power_more(self):
        # With three binary figures 8 still is a number, 9 is not; it is none where there is no reach.
        self.same([exact_level(TINY, 1, 8)[0], exact_level(TINY, 2, 4)[0], exact_level(TINY, 3, 3)[0]], [0, 0, 1])
        self.same([exact_level(Grid(2, 3, 0, 0), 2, 4)[0], exact_level(Grid(2, 3, 0, 0), 1, 7)[0], exact_level(Grid(2, 3, 1, 0), 2, 4)[0]], [3, 0, 0])
        self.same([exact_level(Grid(2, 3, 1, 0), many, 8)[0] for many in (1, 2, 3, 8)], [0, 4, 4, 4])
        self.same([exact_level(Grid(2, 3, 2, 0), many, 8)[0] for many in (1, 2, 3, 8)], [0, 1, 2, 4])

    def test_beyond_the_reach(self):
        for many in (1, 2, 5, 1000):
            for grid in (Grid(2, 2, 1, 0), Grid(3, 1, 1, 0), Grid(2, 1, 3, 0)):
                value = exact_level(grid, many, grid.greatest)
                self.same(value[0], level_of(grid, many, grid.greatest))
                self.assertTrue(shows(grid, many, grid.greatest, value))

    def test_great_grids(self):
        for grid in (Grid(10, 30, 60, 0), Grid(2, 30, 60, 5), Grid(10, 30, 0, 0)):
            for many in (1, 10, 1000):
                level, row = exact_level(grid, many, grid.greatest)
                self.same(shows_exact_level(grid, many, grid.greatest, (level, row)), True)
                unit = grid.base ** level
                top = many * (grid.greatest // unit) * unit
                self.assertTrue(top in grid and (top == 0 or top - unit in grid))
                if level:
                    self.assertLessEqual(len(row), many)
                    self.assertNotIn(sum(row), grid)

    def test_many_numbers(self):
        grid = Grid(10, 3, 3, 0)
        numbers = tuple(range(1, 1000)) + (1000,)
        level = exact_level(grid, 1000, 1000)[0]
        self.same(binned(grid, numbers, 1000), (sum(n // 10 ** level * 10 ** level for n in numbers), sum(n % 10 ** level for n in numbers)))
        self.same(len(exact_level(grid, 1000, 999)[1]) <= 1000, True)
        longer = numbers + (1,)
        self.refused(BadRow, longer, binned, grid, longer, 1000)

    def test_none(self):
        self.same(binned(TINY, (), 7), (0, 0))
        self.same(binned(TINY, (0,), 7), (0, 0))
        self.same(binned(TINY, (-6, -3, -1), 7), (-4, -6))
        self.same(binned(TINY, (7,), 7), (7, 0))

    def test_values_of_any_kind(self):
        for value in wrong_values():
            self.same(shows_exact_level(TINY, 3, 7, value), False)
            self.same(shows_exact_level(TINY, 3, 7, (value, (6, 6, 6))), False)
            self.same(shows_exact_level(TINY, 3, 7, (2, value)), False)
            self.same(shows_exact_level(TINY, 3, 7, (2, (6, 6, value))), False)
            self.same(shows_exact_level(TINY, 3, 3, (1, value)), False)
            self.same(shows_exact_level(TINY, 1, 7, (0, value)), value == ())
            self.same(shows_exact_level(TINY, 1, 7, (value, ())), False)


class Refused(Case):
    """Wrong arguments, the first error first."""

    def test_many(self):
        for value in wrong_values() + [0, -1, 1001, '3']:
            self.refused(BadMany, value, exact_level, TINY, value, None)
            self.refused(BadMany, value, shows_exact_level, TINY, value, None, None)

    def test_greatest(self):
        for value in wrong_values() + [0, -1, 9, 128, '7', (7,)]:
            self.refused(BadNumber, value, exact_level, TINY, 3, value)
            self.refused(BadNumber, value, shows_exact_level, TINY, 3, value, None)
            self.refused(BadNumber, value, binned, TINY, (112,), value)

    def test_rows(self):
        for value in [value for value in wrong_values() if value not in ((), (1,))] + [[6], (6, 9), (6, None), (6, True), 6, (113,)]:
            self.refused(BadRow, value, binned, TINY, value, None)

    def test_too_great(self):
        self.refused_with(TooGreat, 1, binned, TINY, (7, 8, 112), 7)
        self.refused_with(TooGreat, 0, binned, TINY, (-8, 8), 7)
        self.refused_with(TooGreat, 2, binned, TINY, (7, -7, -8), 7)

    def test_named_arguments(self):
        told = exact_level(grid=TINY, many=3, greatest=7)
        self.same(shows_exact_level(grid=TINY, many=3, greatest=7, value=told), True)
        self.same(binned(grid=TINY, numbers=(6, 3, 1), greatest=7), (4, 6))


if __name__ == '__main__':
    unittest.main()
