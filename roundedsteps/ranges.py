"""Ranges: from where to where the worths of a box's inputs and steps go."""

from roundedsteps.boxes import check_box
from roundedsteps.ratios import greater, is_less, lesser, reduced
from roundedsteps.rounding import fitted
from roundedsteps.signs import ROUNDED_SIGNS, outcome


def ranges(program, box):
    """The names with their ranges on the box, None where they have none."""
    check_box(program, box)
    found = spans(program, box, False)
    return tuple([(name, whole_span(span)) for name, span in found.items()])


def exact_ranges(program, box):
    """The names with their ranges on the box if nothing is rounded, None where they have none."""
    check_box(program, box)
    return tuple(spans(program, box, True).items())


def spans(program, box, exact):
    """The ranges by their names, ends being fractions; None where there is none."""
    found = {}
    for row, pair in zip(program.inputs, box):
        found[row[0]] = ((pair[0], 1), (pair[1], 1))
    ended = False
    for step in program.steps:
        span = None if ended else step_span(program.grid, step, found, exact)
        # Where a step may end the run, no step behind it is sure to come.
        ended = span is None
        found[step[0]] = span
    return found


def step_span(grid, step, found, exact):
    """The range of a step behind those that were found, None without one."""
    sign, operands, more, way = step[1:]
    parts = [operand_span(found, operand) for operand in operands]
    if sign not in ROUNDED_SIGNS:
        return chosen_span(sign, parts)
    ends = end_outcomes(sign, parts[0], parts[1], grid.unit)
    if ends is None:
        return None
    if exact:
        return (reduced(ends[0][0], ends[0][1]), reduced(ends[1][0], ends[1][1]))
    low = fitted(grid, ends[0][0], ends[0][1], way, more)
    high = fitted(grid, ends[1][0], ends[1][1], way, more)
    return None if low is None or high is None else ((low, 1), (high, 1))


def whole_span(span):
    """A range whose ends are integers over 1, as a pair of these; None without one."""
    return None if span is None else (span[0][0], span[1][0])


def operand_span(found, operand):
    """The range of a name that was found, or of a number."""
    return found[operand] if isinstance(operand, str) else ((operand, 1), (operand, 1))


def end_outcomes(sign, one, other, unit):
    """The least and the greatest that + - * / makes of two ranges, None if it may divide by 0."""
    if sign == "+":
        return (outcome(sign, one[0], other[0], unit), outcome(sign, one[1], other[1], unit))
    if sign == "-":
        return (outcome(sign, one[0], other[1], unit), outcome(sign, one[1], other[0], unit))
    if sign == "/" and other[0][0] <= 0 <= other[1][0]:
        return None
    corners = [outcome(sign, part, factor, unit) for part in one for factor in other]
    low = corners[0]
    high = corners[0]
    for corner in corners[1:]:
        low = lesser(low, corner)
        high = greater(high, corner)
    return (low, high)


def chosen_span(sign, parts):
    """The range of a least, most or choose of these ranges."""
    if sign == "least":
        return (lesser(parts[0][0], parts[1][0]), lesser(parts[0][1], parts[1][1]))
    if sign == "most":
        return (greater(parts[0][0], parts[1][0]), greater(parts[0][1], parts[1][1]))
    if is_less(parts[0][1], parts[1][0]):
        return parts[2]
    if not is_less(parts[0][0], parts[1][1]):
        return parts[3]
    return (lesser(parts[2][0], parts[3][0]), greater(parts[2][1], parts[3][1]))
