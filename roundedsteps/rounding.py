"""Rounding: the numbers that a worth stands between, and which of them it becomes."""

from roundedsteps.errors import BadFraction, BadMore, BadWay, NoNumber
from roundedsteps.grids import MOST_MORE, spacing_at
from roundedsteps.ratios import reduced
from roundedsteps.whole import is_from_to, is_whole

WAYS = ("near", "down", "up", "zero")


def rounded(grid, top, bottom, way, more):
    """The integer that the fraction is rounded to, None if it is over."""
    check_worth(top, bottom)
    check_way(way)
    check_more(more)
    return fitted(grid, top, bottom, way, more)


def rest(grid, top, bottom, way, more):
    """The fraction less what it is rounded to, None if this is over."""
    number = rounded(grid, top, bottom, way, more)
    if number is None:
        return None
    return reduced(top - number * bottom, bottom)


def is_tie(grid, top, bottom, more):
    """Whether the fraction is in the middle between two multiples of its spacing."""
    check_worth(top, bottom)
    check_more(more)
    step = bottom * spacing_at(grid, abs(top) // bottom, more)
    return top % step * 2 == step


def around(grid, top, bottom, more):
    """The multiples of the spacing next to the fraction: the one below, the one above."""
    check_worth(top, bottom)
    check_more(more)
    spacing = spacing_at(grid, abs(top) // bottom, more)
    step = bottom * spacing
    return (top // step * spacing, -(-top // step) * spacing)


def split_sum(grid, one, other):
    """The sum of two numbers rounded near, and what is left; None if it is over."""
    for number in (one, other):
        if number not in grid:
            raise NoNumber(number)
    return split(grid, one + other)


def split(grid, worth):
    """An integer rounded near, and what is left; None if it is over."""
    number = fitted(grid, worth, 1, "near", 0)
    return None if number is None else (number, worth - number)


def fitted(grid, top, bottom, way, more):
    """What rounded tells of arguments that are known to be right."""
    spacing = spacing_at(grid, abs(top) // bottom, more)
    step = bottom * spacing
    below = top // step
    left = top - below * step
    number = (below + 1) * spacing if left and goes_up(below, left, step, way) else below * spacing
    return None if abs(number) > grid.tops[more] else number


def goes_up(below, left, step, way):
    """Whether a worth goes up that is left so far above its multiple below, of step from one to the next."""
    if way == "zero":
        return below < 0
    if way != "near":
        return way == "up"
    # Of a tie the even multiple is the one above just if the one below is odd.
    return left * 2 > step or left * 2 == step and below % 2 == 1


def check_worth(top, bottom):
    """Raise BadFraction unless both are integers, the bottom from 1 on."""
    if not is_whole(top) or not is_whole(bottom) or bottom < 1:
        raise BadFraction((top, bottom))


def check_way(way):
    """Raise BadWay for what is no way of rounding."""
    if way not in WAYS:
        raise BadWay(way)


def check_more(more):
    """Raise BadMore for what is no number of figures more."""
    if not is_from_to(more, 0, MOST_MORE):
        raise BadMore(more)
