"""Grids: the numbers of few figures, of one base."""

from roundedsteps.errors import BadGrid, BadMore, NoNumber, NoRank
from roundedsteps.whole import is_from_to, is_whole, power

MOST_FIGURES = 30
MOST_MORE = 3


class Grid:
    """All numbers m * base ** k, m of so many figures, k up to the reach."""

    def __init__(self, base, figures, reach, places):
        """Take the four as they are told, if a grid can have them."""
        told = (base, figures, reach, places)
        if not is_grid(told):
            raise BadGrid(told)
        self.base = base
        self.figures = figures
        self.reach = reach
        self.places = places
        self.unit = power(base, places)
        # Rounding asks for these again and again, so they are worked out once: the first integer that has
        # too many figures, and the greatest number, by how many figures more are kept.
        self.limits = tuple([power(base, figures + extra) for extra in range(MOST_MORE + 1)])
        self.tops = tuple([(limit - 1) * power(base, reach) for limit in self.limits])
        self.greatest = self.tops[0]

    def __eq__(self, other):
        """Whether other is a Grid of the same four."""
        return (isinstance(other, Grid) and self.base == other.base and self.figures == other.figures
                and self.reach == other.reach and self.places == other.places)

    def __contains__(self, value):
        """Whether any value is a number of this grid."""
        if not is_whole(value) or abs(value) > self.greatest:
            return False
        return value % spacing_at(self, abs(value), 0) == 0

    def spacing(self, number):
        """How far the numbers around a number stand apart."""
        if number not in self:
            raise NoNumber(number)
        return spacing_at(self, abs(number), 0)

    def rank(self, number):
        """How many numbers stand from behind 0 to this one, with its sign."""
        if number not in self:
            raise NoNumber(number)
        size = abs(number)
        spacing = spacing_at(self, size, 0)
        passed = spans_below(self, spacing) * span_size(self)
        rank = size // spacing + passed
        return rank if number >= 0 else -rank

    def number(self, rank):
        """The number of this rank."""
        if not is_whole(rank) or abs(rank) > self.rank(self.greatest):
            raise NoRank(rank)
        size = abs(rank)
        level = max(0, (size - self.limits[0] // self.base) // span_size(self))
        number = (size - level * span_size(self)) * power(self.base, level)
        return number if rank >= 0 else -number

    def after(self, number):
        """The next greater number, None behind the greatest."""
        rank = self.rank(number)
        return None if number == self.greatest else self.number(rank + 1)

    def before(self, number):
        """The next lesser number, None ahead of the least."""
        rank = self.rank(number)
        return None if number == -self.greatest else self.number(rank - 1)

    def more(self, figures):
        """The Grid with so many figures more."""
        if not is_from_to(figures, 0, MOST_MORE) or self.figures + figures > MOST_FIGURES:
            raise BadMore(figures)
        return Grid(self.base, self.figures + figures, self.reach, self.places)

    def many(self, low, high):
        """How many numbers there are from low to high."""
        first = self.rank(low)
        last = self.rank(high)
        return max(0, last - first + 1)


def is_grid(told):
    """Whether a grid can have this base, these figures, this reach, these places."""
    base, figures, reach, places = told
    return (is_from_to(base, 2, 10) and is_from_to(figures, 1, MOST_FIGURES)
            and is_from_to(reach, 0, 60) and is_from_to(places, 0, 30))


def spacing_at(grid, size, more):
    """The spacing at any worth of this size, a size's whole part being enough, with so many figures more."""
    spacing = 1
    limit = grid.limits[more]
    while size >= limit:
        limit = limit * grid.base
        spacing = spacing * grid.base
    return spacing


def spans_below(grid, spacing):
    """How many times the base goes into a spacing: how many spans of other spacings lie ahead."""
    level = 0
    while spacing > 1:
        spacing = spacing // grid.base
        level = level + 1
    return level


def span_size(grid):
    """How many numbers there are from one power of the base to the next one, where they have all figures."""
    return grid.limits[0] - grid.limits[0] // grid.base
