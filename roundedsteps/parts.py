"""Rows of parts: what one number cannot tell, some together do."""

from roundedsteps.errors import BadFour, BadRow, BadWorth, NoNumber
from roundedsteps.rounding import fitted, split
from roundedsteps.whole import is_from_to, sign_of

LONGEST_ROW = 100


def row_worth(grid, row):
    """The exact sum of a row."""
    check_row(grid, row)
    return sum(row)


def plain_sum(grid, row):
    """The numbers added as they stand, and what each addition left; None if a sum is over."""
    check_row(grid, row)
    total = row[0] if row else 0
    lost = []
    for number in row[1:]:
        pair = split(grid, total + number)
        if pair is None:
            return None
        total = pair[0]
        lost.append(pair[1])
    return (total, tuple(lost))


def renewed(grid, worth):
    """The row of this worth, each number being all that is left, rounded."""
    check_reached(grid, worth)
    return rounded_parts(grid, worth)


def renewed_row(grid, row):
    """The renewed row of a row's worth, None if the grid does not reach it."""
    worth = row_worth(grid, row)
    return rounded_parts(grid, worth) if abs(worth) <= grid.greatest else None


def shows_shortest(grid, worth, value):
    """Whether any value is a row of this worth, and none of this worth has fewer numbers."""
    check_reached(grid, worth)
    # No row is shorter than the renewed one, so its length is the least.
    return is_row(grid, value) and sum(value) == worth and len(value) == len(rounded_parts(grid, worth))


def product_row(grid, one, other):
    """The renewed row of the product of two numbers, None if the grid does not reach it."""
    for number in (one, other):
        if number not in grid:
            raise NoNumber(number)
    worth = one * other
    return rounded_parts(grid, worth) if abs(worth) <= grid.greatest else None


def cross_signs(grid, four):
    """The sign of a * d - b * c, and what it is if both products are rounded; None there if one is over."""
    if not is_numbers(grid, four) or len(four) != 4:
        raise BadFour(four)
    ahead = four[0] * four[3]
    behind = four[1] * four[2]
    one = fitted(grid, ahead, 1, "near", 0)
    other = fitted(grid, behind, 1, "near", 0)
    plain = None if one is None or other is None else sign_of(one - other)
    return (sign_of(ahead - behind), plain)


def rounded_parts(grid, worth):
    """The renewed row of a worth that the grid reaches."""
    row = []
    left = worth
    while left != 0:
        number = fitted(grid, left, 1, "near", 0)
        row.append(number)
        left = left - number
    return tuple(row)


def is_numbers(grid, value):
    """Whether any value is a tuple of numbers of the grid alone."""
    return isinstance(value, tuple) and all([part in grid for part in value])


def is_row(grid, value):
    """Whether any value is a row."""
    return is_numbers(grid, value) and len(value) <= LONGEST_ROW


def check_row(grid, row):
    """Raise BadRow for what is no row."""
    if not is_row(grid, row):
        raise BadRow(row)


def check_reached(grid, worth):
    """Raise BadWorth for what is no integer that the grid reaches."""
    if not is_from_to(worth, -grid.greatest, grid.greatest):
        raise BadWorth(worth)
