"""Boxes: all inputs from lows to highs."""

from roundedsteps.errors import BadBox, BadCut, BadName, BadNumber
from roundedsteps.programs import is_box
from roundedsteps.whole import is_from_to


def whole_box(program):
    """The box of all inputs."""
    return tuple([(row[1], row[2]) for row in program.inputs])


def points(program, box):
    """How many rows of inputs are in the box."""
    many = 1
    for count in side_counts(program, box):
        many = many * count
    return many


def inputs_at(program, box, number):
    """The inputs in the box with this number, counted from 0 on, ascending."""
    counts = side_counts(program, box)
    if not is_from_to(number, 0, points(program, box) - 1):
        raise BadNumber(number)
    row = []
    left = number
    # The last input changes first, as in tuples that ascend.
    for pair, count in reversed(list(zip(box, counts))):
        row.append(number_in(program.grid, pair, left % count))
        left = left // count
    return tuple(row[::-1])


def cut_at(program, box, name, at):
    """The boxes up to a number of an input, and behind it."""
    check_box(program, box)
    names = [row[0] for row in program.inputs]
    if name not in names:
        raise BadName(name)
    place = names.index(name)
    low, high = box[place]
    if at not in program.grid or not low <= at < high:
        raise BadCut(at)
    below = box[:place] + ((low, at),) + box[place + 1:]
    above = box[:place] + ((program.grid.after(at), high),) + box[place + 1:]
    return (below, above)


def halved(program, box):
    """The boxes that come of a cut through the middle of the input with the most numbers, None for a point."""
    counts = side_counts(program, box)
    most = max(counts)
    if most == 1:
        return None
    place = counts.index(most)
    at = number_in(program.grid, box[place], (most + 1) // 2 - 1)
    return cut_at(program, box, program.inputs[place][0], at)


def rows_in(program, box):
    """All inputs in the box, ascending."""
    rows = [()]
    for pair, count in zip(box, side_counts(program, box)):
        numbers = [number_in(program.grid, pair, place) for place in range(count)]
        rows = [ahead + (number,) for ahead in rows for number in numbers]
    return rows


def side_counts(program, box):
    """How many numbers the box has of each input."""
    check_box(program, box)
    return [program.grid.many(low, high) for low, high in box]


def number_in(grid, pair, place):
    """The number at this place, from 0 on, of those from low to high."""
    return grid.number(grid.rank(pair[0]) + place)


def check_box(program, box):
    """Raise BadBox for what is no box of the program."""
    if not is_box(program, box):
        raise BadBox(box)
