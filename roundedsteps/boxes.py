"""Boxes: all inputs from lows to highs."""

from roundedsteps.errors import BadBox, BadCut, BadName, BadNumber
from roundedsteps.programs import is_box
from roundedsteps.whole import is_from_to


def whole_box(program):
    """The box of all inputs."""
    return tuple([(row[1], row[2]) for row in program.inputs])


def points(program, box):
    """How many rows of inputs are in the box."""
    check_box(program, box)
    return count_in(program.grid, box)


def inputs_at(program, box, number):
    """The inputs in the box with this number, counted from 0 on, ascending."""
    check_box(program, box)
    if not is_from_to(number, 0, count_in(program.grid, box) - 1):
        raise BadNumber(number)
    row = []
    left = number
    # The last input changes first, as in tuples that ascend.
    for pair, count in reversed(list(zip(box, side_counts(program.grid, box)))):
        row.append(number_in(program.grid, pair, left % count))
        left = left // count
    return tuple(row[::-1])


def cut_at(program, box, name, at):
    """The boxes up to a number of an input, and behind it."""
    check_box(program, box)
    place = input_place(program, name)
    if place is None:
        raise BadName(name)
    if not can_cut(program.grid, box[place], at):
        raise BadCut(at)
    return two_parts(program.grid, box, place, at)


def halved(program, box):
    """The boxes that come of a cut through the middle of the input with the most numbers, None for a point."""
    check_box(program, box)
    if is_point(box):
        return None
    place, at = middle_cut(program.grid, box)
    return two_parts(program.grid, box, place, at)


def rows_in(program, box):
    """All inputs in the box, ascending."""
    rows = [()]
    for pair, count in zip(box, side_counts(program.grid, box)):
        numbers = [number_in(program.grid, pair, place) for place in range(count)]
        rows = [ahead + (number,) for ahead in rows for number in numbers]
    return rows


def count_in(grid, box):
    """How many rows of inputs are in a box that is known to be right."""
    many = 1
    for count in side_counts(grid, box):
        many = many * count
    return many


def side_counts(grid, box):
    """How many numbers the box has of each input."""
    return [grid.many(low, high) for low, high in box]


def number_in(grid, pair, place):
    """The number at this place, from 0 on, of those from low to high."""
    return grid.number(grid.rank(pair[0]) + place)


def input_place(program, name):
    """The place of the input of this name, None without one."""
    names = [row[0] for row in program.inputs]
    return names.index(name) if name in names else None


def can_cut(grid, pair, at):
    """Whether any value is a number at which what is from a low to a high can be cut."""
    return at in grid and pair[0] <= at < pair[1]


def two_parts(grid, box, place, at):
    """The boxes up to a number of the input at this place, and behind it."""
    low, high = box[place]
    below = box[:place] + ((low, at),) + box[place + 1:]
    above = box[:place] + ((grid.after(at), high),) + box[place + 1:]
    return (below, above)


def middle_cut(grid, box):
    """The place of the input, and its number, at which a box that is no point is halved."""
    counts = side_counts(grid, box)
    most = max(counts)
    place = counts.index(most)
    return (place, number_in(grid, box[place], (most + 1) // 2 - 1))


def is_point(box):
    """Whether the box has one row of inputs."""
    return all([low == high for low, high in box])


def point_box(inputs):
    """The box of one row of inputs."""
    return tuple([(number, number) for number in inputs])


def lows(box):
    """The first inputs of the box."""
    return tuple([pair[0] for pair in box])


def is_in_box(inputs, box):
    """Whether inputs of the program are in its box."""
    return all([low <= number <= high for number, (low, high) in zip(inputs, box)])


def check_box(program, box):
    """Raise BadBox for what is no box of the program."""
    if not is_box(program, box):
        raise BadBox(box)
