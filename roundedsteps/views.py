"""Views: the ranges and the lines that are told of a program on a box."""

from math import gcd

from roundedsteps.grids import spacing_at
from roundedsteps.ranges import operand_span, spans
from roundedsteps.ratios import greater, is_less, minus, ratio
from roundedsteps.signs import ROUNDED_SIGNS
from roundedsteps.slopes import input_line, is_number_line, line_difference, line_span, line_sum, line_times
from roundedsteps.slopes import number_line


class View:
    """A program on a box, as it is run, or, if exact, as it is without rounding."""

    def __init__(self, program, box, exact):
        """Go through the inputs and the steps; the box is known to be right."""
        self.program = program
        self.box = box
        self.exact = exact
        self.spans = spans(program, box, exact)
        self.extras = {}
        self.drawn = {}
        self.plain = []
        for place, row in enumerate(program.inputs):
            self.extras[row[0]] = 0
            self.drawn[row[0]] = self._first_fitting(row[0], input_line(place, len(box)))
        for step in program.steps:
            self._add_step(step)

    def _add_step(self, step):
        """Take in a step behind those ahead of it."""
        name = step[0]
        self.extras[name] = self._step_extra(step)
        line = None if self.spans[name] is None else self._own_line(step)
        if line is not None and step[1] in ROUNDED_SIGNS:
            self.plain.append(name)
        self.drawn[name] = self._first_fitting(name, line)

    def _first_fitting(self, name, line):
        """The line of the only number in the name's range, or else this line of its own."""
        span = self.spans[name]
        if span is not None and span[0] == span[1]:
            return number_line(span[0], len(self.box))
        return line

    def _step_extra(self, step):
        """How many figures more than the grid a step's worths may have."""
        sign, operands, more = step[1:4]
        if sign in ROUNDED_SIGNS:
            return more
        taken = operands[2:] if sign == "choose" else operands
        return max([self._extra_of(operand) for operand in taken])

    def _extra_of(self, operand):
        """How many figures more than the grid an operand may have."""
        return self.extras[operand] if isinstance(operand, str) else 0

    def _own_line(self, step):
        """The line that a step has by its operands, None if there is none, or it is not kept."""
        if step[1] not in ROUNDED_SIGNS:
            return self._taken_line(step)
        one = self.line_of(step[2][0])
        other = self.line_of(step[2][1])
        if one is None or other is None:
            return None
        line = self._outcome_line(step[1], one, other)
        if line is None or self.exact:
            return line
        kept = is_kept_by_units(self.program.grid, line, self.box, step[3]) or self._is_kept_by_halves(step)
        return line if kept else None

    def _outcome_line(self, sign, one, other):
        """The line that + - * / makes of two lines, None if it makes none."""
        if sign == "+":
            return line_sum(one, other)
        if sign == "-":
            return line_difference(one, other)
        unit = self.program.grid.unit
        pairs = ((one, other), (other, one)) if sign == "*" else ((other, one),)
        for number, line in pairs:
            if is_number_line(number):
                # Where a divisor may be 0 there is no range, so none that is 0 comes here.
                factor = ratio(number[0], (unit, 1)) if sign == "*" else ratio((unit, 1), number[0])
                if self.exact or factor[1] == 1:
                    return line_times(line, factor)
        return None

    def _taken_line(self, step):
        """The line of the operand that a least, most or choose takes, None if it is not sure."""
        operand = self.sure_operand(step)
        if operand is not None:
            return self.line_of(operand)
        if step[1] != "choose":
            return None
        line = self.line_of(step[2][2])
        return line if line == self.line_of(step[2][3]) else None

    def _is_kept_by_halves(self, step):
        """Whether a step takes two operands from one another that are at most twice one another."""
        sign, operands, more = step[1:4]
        one, other = operands
        if sign != "-" or max(self._extra_of(one), self._extra_of(other)) > more:
            return False
        line = self.line_of(one)
        also = self.line_of(other)
        ahead = line_span(line_difference(line_sum(line, line), also), self.box)
        behind = line_span(line_difference(line_sum(also, also), line), self.box)
        return (ahead[0][0] >= 0 and behind[0][0] >= 0) or (ahead[1][0] <= 0 and behind[1][0] <= 0)

    def span_of(self, operand):
        """The range of a name or a number, None without one."""
        return operand_span(self.spans, operand)

    def told_spans(self, name):
        """From where to where it is told that a name goes: its range, and the ends of its line."""
        found = []
        if self.spans[name] is not None:
            found.append(self.spans[name])
        if self.drawn[name] is not None:
            found.append(line_span(self.drawn[name], self.box))
        return found

    def line_of(self, operand):
        """The line of a name or a number, None without one."""
        return self.drawn[operand] if isinstance(operand, str) else number_line((operand, 1), len(self.box))

    def is_below(self, one, other):
        """Whether it is sure that one operand is less than the other one."""
        span = self.span_of(one)
        also = self.span_of(other)
        if span is not None and also is not None and is_less(span[1], also[0]):
            return True
        ends = self.difference_span(one, other)
        return ends is not None and ends[1][0] < 0

    def is_at_most(self, one, other):
        """Whether it is sure that one operand is not greater than the other one."""
        span = self.span_of(one)
        also = self.span_of(other)
        if span is not None and also is not None and not is_less(also[0], span[1]):
            return True
        ends = self.difference_span(one, other)
        return ends is not None and ends[1][0] <= 0

    def side_of(self, one, other):
        """True if it is sure that one operand is less than the other one, False if that it is not, None if neither."""
        if self.is_below(one, other):
            return True
        return False if self.is_at_most(other, one) else None

    def difference_span(self, one, other):
        """The ends of the difference of two operands' lines, None unless both have lines."""
        line = self.line_of(one)
        also = self.line_of(other)
        if line is None or also is None:
            return None
        return line_span(line_difference(line, also), self.box)

    def sure_operand(self, step):
        """The operand that a least, most or choose is sure to take, None if it is not sure."""
        sign, operands = step[1:3]
        one, other = operands[:2]
        if sign == "choose":
            side = self.side_of(one, other)
            if side is None:
                return None
            return operands[2] if side else operands[3]
        below, above = (one, other) if sign == "least" else (other, one)
        if self.is_at_most(below, above):
            return one
        return other if self.is_at_most(above, below) else None


def is_kept_by_units(grid, line, box, more):
    """Whether so many figures more keep a line of integers: it has few enough figures from its units on."""
    common = line[0][0]
    for part, pair in zip(line[1:], box):
        common = gcd(common, part[0] * spacing_at(grid, least_size(pair), 0))
    unit = 1
    # The units are no greater than the greatest spacing of the grid.
    for _ in range(grid.reach):
        if common % (unit * grid.base) == 0:
            unit = unit * grid.base
    low, high = line_span(line, box)
    limit = unit * grid.limits[more]
    return -limit < low[0] and high[0] < limit


def least_size(pair):
    """How far from 0 the number is that is nearest to it, from a low to a high."""
    if pair[0] <= 0 <= pair[1]:
        return 0
    return min(abs(pair[0]), abs(pair[1]))


def off_bounds(view, exact, name):
    """How far from its exact worth it is told that a name is at the most: by ranges, and by lines."""
    found = []
    span = view.spans[name]
    right = exact.spans[name]
    if span is not None and right is not None:
        found.append(greater(minus(span[1], right[0]), minus(right[1], span[0])))
    line = view.drawn[name]
    right_line = exact.drawn[name]
    if line is not None and right_line is not None:
        low, high = line_span(line_difference(line, right_line), view.box)
        found.append(greater(high, (-low[0], low[1])))
    return found
