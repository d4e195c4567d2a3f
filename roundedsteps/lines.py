"""Lines: which names are sums of so many times each input on a box, and which are alike."""

from roundedsteps.boxes import check_box
from roundedsteps.errors import BadBox, BadLine
from roundedsteps.lots import lots
from roundedsteps.slopes import line_span
from roundedsteps.views import View
from roundedsteps.whole import is_whole


def lines(program, box):
    """The names with their lines on the box, None where they have none."""
    check_box(program, box)
    drawn = View(program, box, False).drawn
    return tuple([(name, whole_line(line)) for name, line in drawn.items()])


def line_ends(line, box):
    """The least and the greatest of a line on any lows and highs."""
    if not isinstance(line, tuple) or line == () or not all([is_whole(part) for part in line]):
        raise BadLine(line)
    if not isinstance(box, tuple) or len(box) != len(line) - 1 or not all([is_stretch(pair) for pair in box]):
        raise BadBox(box)
    low, high = line_span([(part, 1) for part in line], box)
    return (low[0], high[0])


def plain_steps(program, box):
    """The names of the steps + - * / in which lines show that nothing is rounded off."""
    check_box(program, box)
    return tuple(sorted(View(program, box, False).plain))


def exact_lines(program, box):
    """The names with their lines on the box if nothing is rounded, None where they have none."""
    check_box(program, box)
    return tuple(View(program, box, True).drawn.items())


def alike(program, box):
    """The names in lots, those of one lot having the same worths on the box."""
    check_box(program, box)
    return lots(View(program, box, False))


def whole_line(line):
    """A line of integers over 1, as these integers; None without one."""
    return None if line is None else tuple([part[0] for part in line])


def is_stretch(value):
    """Whether any value is a pair of integers, ascending or equal."""
    if not isinstance(value, tuple) or len(value) != 2 or not all([is_whole(part) for part in value]):
        return False
    return value[0] <= value[1]
