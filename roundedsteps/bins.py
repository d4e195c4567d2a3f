"""Bins: sums of numbers that are cut such that the sequence in which they are added does not matter."""

from roundedsteps.errors import BadMany, BadNumber, BadRow, TooGreat
from roundedsteps.parts import is_numbers
from roundedsteps.whole import is_from_to, is_just, is_whole, power

MOST_MANY = 1000


def exact_level(grid, many, greatest):
    """The least level at which all sums of so many multiples are numbers, and a sum of the level below that is none."""
    check_many(many)
    check_greatest(grid, greatest)
    level = level_for(grid, many, greatest)
    return (level, () if level == 0 else row_below(grid, greatest, level - 1))


def shows_exact_level(grid, many, greatest, value):
    """Whether any value is that level, and a row of the level below whose sum is no number."""
    check_many(many)
    check_greatest(grid, greatest)
    level = level_for(grid, many, greatest)
    if not isinstance(value, tuple) or len(value) != 2 or not is_just(value[0], level):
        return False
    if level == 0:
        return value[1] == ()
    return is_row_below(grid, many, greatest, level - 1, value[1])


def binned(grid, numbers, greatest):
    """The sum of all numbers cut at the exact level, and the sum of what is cut off."""
    if not is_numbers(grid, numbers) or len(numbers) > MOST_MANY:
        raise BadRow(numbers)
    check_greatest(grid, greatest)
    for place, number in enumerate(numbers):
        if abs(number) > greatest:
            raise TooGreat(place)
    unit = power(grid.base, level_for(grid, len(numbers), greatest))
    worth = sum([cut_to(number, unit) for number in numbers])
    return (worth, sum(numbers) - worth)


def level_for(grid, many, greatest):
    """The least level such that all sums of so many multiples up to the greatest are numbers of the grid."""
    level = 0
    while many * (greatest // power(grid.base, level)) >= first_gap(grid, level):
        level = level + 1
    return level


def first_gap(grid, level):
    """How many times the unit of a level is the least multiple from 0 on that is no number of the grid."""
    if level < grid.reach:
        # One more than all figures make is a power of the base: this still is a number, the next one is not.
        return grid.limits[0] + 1
    return grid.limits[0] // power(grid.base, level - grid.reach)


def row_below(grid, greatest, level):
    """Multiples of the unit of a level, as great as they may be, whose sum is no number of the grid."""
    unit = power(grid.base, level)
    most = greatest // unit
    gap = first_gap(grid, level)
    row = [most * unit for _ in range(gap // most)]
    return tuple(row + [gap % most * unit]) if gap % most > 0 else tuple(row)


def is_row_below(grid, many, greatest, level, value):
    """Whether any value is at most so many multiples of the unit of a level whose sum is no number of the grid."""
    if not isinstance(value, tuple) or len(value) > many or not all([is_whole(part) for part in value]):
        return False
    unit = power(grid.base, level)
    if not all([part % unit == 0 and abs(part) <= greatest for part in value]):
        return False
    return sum(value) not in grid


def cut_to(number, unit):
    """The next multiple of a unit towards 0."""
    return number // unit * unit if number >= 0 else -(-number // unit * unit)


def check_many(many):
    """Raise BadMany for what is no number of numbers."""
    if not is_from_to(many, 1, MOST_MANY):
        raise BadMany(many)


def check_greatest(grid, greatest):
    """Raise BadNumber for what is no number of the grid above 0."""
    if greatest not in grid or greatest <= 0:
        raise BadNumber(greatest)
