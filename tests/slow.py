"""A slow and plain reckoning, straight from the document's words, that the program is held against."""

from fractions import Fraction
from functools import lru_cache
from itertools import product
from math import ceil, floor


@lru_cache
def all_numbers(base, figures, reach):
    """All numbers of a grid, ascending."""
    found = set()
    for level in range(reach + 1):
        for size in range(base ** figures):
            found.add(size * base ** level)
            found.add(-size * base ** level)
    return sorted(found)


def spacing(grid, worth, more=0):
    """The spacing at any worth."""
    level = 0
    while not abs(worth) < grid.base ** (grid.figures + more + level):
        level += 1
    return grid.base ** level


def greatest(grid, more=0):
    """The greatest number with so many figures more."""
    return (grid.base ** (grid.figures + more) - 1) * grid.base ** grid.reach


def rounded(grid, worth, way, more=0):
    """What a Fraction is rounded to, None if it is over."""
    step = spacing(grid, worth, more)
    below = floor(worth / step) * step
    above = ceil(worth / step) * step
    if way == 'down':
        number = below
    elif way == 'up':
        number = above
    elif way == 'zero':
        number = min(below, above, key=abs)
    elif worth - below == above - worth:
        number = below if below // step % 2 == 0 else above
    else:
        number = below if worth - below < above - worth else above
    return number if abs(number) <= greatest(grid, more) else None


def inputs_of(program, box=None):
    """All inputs of a box, of the whole one if none is told."""
    pairs = box or [(low, high) for _, low, high in program.inputs]
    numbers = all_numbers(program.grid.base, program.grid.figures, program.grid.reach)
    return list(product(*[[number for number in numbers if low <= number <= high] for low, high in pairs]))


def outcome(grid, sign, one, other):
    """The exact worth of a step + - * /, None if it divides by 0."""
    if sign == '+':
        return one + other
    if sign == '-':
        return one - other
    if sign == '*':
        return one * other / Fraction(grid.base ** grid.places)
    return one / Fraction(other) * grid.base ** grid.places if other != 0 else None


def walk(program, inputs, free=()):
    """The worths, as Fractions, in a dict, and the end, None if the run tells."""
    known = {name: Fraction(number) for (name, _, _), number in zip(program.inputs, inputs)}
    for name, sign, operands, more, way in program.steps:
        parts = [known[part] if isinstance(part, str) else Fraction(part) for part in operands]
        if sign == 'least':
            known[name] = min(parts)
        elif sign == 'most':
            known[name] = max(parts)
        elif sign == 'choose':
            known[name] = parts[2] if parts[0] < parts[1] else parts[3]
        else:
            worth = outcome(program.grid, sign, *parts)
            if worth is None:
                return known, ('nought', name)
            if name not in free:
                worth = rounded(program.grid, worth, way, more)
                if worth is None:
                    return known, ('over', name)
            known[name] = Fraction(worth)
    return known, None


def rounding_steps(program):
    """The names of the steps + - * /."""
    return [step[0] for step in program.steps if step[1] in ('+', '-', '*', '/')]


def pair_of(worth):
    """A Fraction as (top, bottom)."""
    return (worth.numerator, worth.denominator)


def is_so(program, claim, inputs):
    """Whether a claim is so at inputs."""
    known, end = walk(program, inputs)
    exact, _ = walk(program, inputs, rounding_steps(program))
    if end is not None:
        return False
    kind, told = claim[0], claim[1:]
    if kind == 'sound':
        return True
    name = told[0]
    steps = {step[0]: step for step in program.steps}
    if kind == 'within':
        return told[1] <= known[name] <= told[2]
    if kind == 'atmost':
        return known[name] <= known[told[1]]
    if kind == 'same':
        return known[name] == known[told[1]]
    if kind == 'plain':
        if name not in rounding_steps(program):
            return True
        parts = [known[part] if isinstance(part, str) else Fraction(part) for part in steps[name][2]]
        return outcome(program.grid, steps[name][1], *parts) == known[name]
    if name not in exact:
        return False
    if kind == 'nearest':
        return rounded(program.grid, exact[name], 'near') == known[name]
    if kind == 'off':
        return abs(known[name] - exact[name]) <= told[1]
    if kind == 'sure':
        return abs(known[name]) <= told[1] or known[name] * exact[name] > 0
    sides = []
    for worths in (known, exact):
        one, other = [worths[part] if isinstance(part, str) else part for part in steps[name][2][:2]]
        sides.append(one < other)
    return sides[0] == sides[1]


class Told:
    """Ranges, lines and lots of a program on a box, each looked up by the rules when it is asked for."""

    def __init__(self, program, box, exact=False):
        self.program, self.box, self.exact = program, box, exact
        self.grid = program.grid
        self.order = [row[0] for row in program.inputs]
        self.steps = {step[0]: step for step in program.steps}
        self.kept_ranges, self.kept_lines = {}, {}

    def names(self):
        return self.order + list(self.steps)

    def range(self, part):
        if not isinstance(part, str):
            return (Fraction(part), Fraction(part))
        if part not in self.kept_ranges:
            self.kept_ranges[part] = self.found_range(part)
        return self.kept_ranges[part]

    def found_range(self, name):
        if name in self.order:
            low, high = self.box[self.order.index(name)]
            return (Fraction(low), Fraction(high))
        for ahead in self.steps:
            if ahead == name:
                break
            if self.range(ahead) is None:
                return None
        _, sign, operands, more, way = self.steps[name]
        parts = [self.range(part) for part in operands]
        (a, b), (c, d) = parts[:2]
        if sign == 'least':
            return (min(a, c), min(b, d))
        if sign == 'most':
            return (max(a, c), max(b, d))
        if sign == 'choose':
            if b < c:
                return parts[2]
            if not a < d:
                return parts[3]
            return (min(parts[2][0], parts[3][0]), max(parts[2][1], parts[3][1]))
        if sign == '/' and c <= 0 <= d:
            return None
        corners = [outcome(self.grid, sign, x, y) for x in (a, b) for y in (c, d)]
        ends = (min(corners), max(corners))
        if self.exact:
            return ends
        low, high = [rounded(self.grid, end, way, more) for end in ends]
        return None if low is None or high is None else (Fraction(low), Fraction(high))

    def at(self, line, least):
        """The least or the greatest of a line on the box."""
        worths = [line[0] + sum(c * x for c, x in zip(line[1:], row)) for row in product(*self.box)]
        return min(worths) if least else max(worths)

    def constant(self, worth):
        return (Fraction(worth),) + (Fraction(0),) * len(self.box)

    def line(self, part):
        if not isinstance(part, str):
            return self.constant(part)
        if part not in self.kept_lines:
            self.kept_lines[part] = self.found_line(part)
        return self.kept_lines[part]

    def found_line(self, name):
        ends = self.range(name)
        if ends is None:
            return None
        if ends[0] == ends[1]:
            return self.constant(ends[0])
        if name in self.order:
            return tuple(Fraction(int(place == self.order.index(name) + 1)) for place in range(len(self.box) + 1))
        return self.rule_two(name) if name in rounding_steps(self.program) else self.rule_three(name)

    def number_of(self, line):
        """The number whose line it is, None if it is that of none."""
        return line[0] if line is not None and not any(line[1:]) else None

    def rule_two(self, name):
        """The line of + - * / by what it does, if it is kept."""
        _, sign, (one, other), more, _ = self.steps[name]
        a, b = self.line(one), self.line(other)
        if a is None or b is None:
            return None
        unit = self.grid.base ** self.grid.places
        n, k = self.number_of(a), self.number_of(b)
        line = None
        if sign in '+-':
            turn = 1 if sign == '+' else -1
            line = tuple(x + turn * y for x, y in zip(a, b))
        elif sign == '*' and n is not None and (self.exact or n % unit == 0):
            line = tuple(n / unit * y for y in b)
        elif sign == '*' and k is not None and (self.exact or k % unit == 0):
            line = tuple(k / unit * x for x in a)
        elif sign == '/' and k and (self.exact or unit % k == 0):
            line = tuple(unit / k * x for x in a)
        if line is None or self.exact:
            return line
        if self.by_units(line, self.grid.figures + more):
            return line
        return line if sign == '-' and self.by_halves(one, other, self.grid.figures + more) else None

    def by_units(self, line, figures):
        parts = [line[0]]
        for c, (low, high) in zip(line[1:], self.box):
            nearest = min([number for number in (low, high, 0) if low <= number <= high], key=abs)
            parts.append(c * spacing(self.grid, nearest))
        level = max(k for k in range(self.grid.reach + 1) if all(part % self.grid.base ** k == 0 for part in parts))
        limit = self.grid.base ** (level + figures)
        return abs(self.at(line, True)) < limit and abs(self.at(line, False)) < limit

    def figures(self, part):
        """How many figures an operand's worths may have."""
        if not isinstance(part, str) or part in self.order:
            return self.grid.figures
        _, sign, operands, more, _ = self.steps[part]
        if sign in ('least', 'most', 'choose'):
            return max(self.figures(operand) for operand in operands[-2:])
        return self.grid.figures + more

    def by_halves(self, one, other, figures):
        if self.figures(one) > figures or self.figures(other) > figures:
            return False
        a, b = self.line(one), self.line(other)
        ahead = tuple(2 * x - y for x, y in zip(a, b))
        behind = tuple(2 * y - x for x, y in zip(a, b))
        return (self.at(ahead, True) >= 0 and self.at(behind, True) >= 0
                or self.at(ahead, False) <= 0 and self.at(behind, False) <= 0)

    def sure(self, one, other, strictly):
        """Whether one is surely at most, or strictly below, the other."""
        ranges = (self.range(one), self.range(other))
        if None not in ranges:
            if ranges[0][1] < ranges[1][0] or not strictly and ranges[0][1] == ranges[1][0]:
                return True
        a, b = self.line(one), self.line(other)
        if a is None or b is None:
            return False
        end = self.at(tuple(x - y for x, y in zip(a, b)), False)
        return end < 0 or not strictly and end == 0

    def sure_operand(self, name):
        """(operand,) that a least, most or choose surely is, None if it is not sure."""
        _, sign, operands, _, _ = self.steps[name]
        one, other = operands[:2]
        if sign == 'choose':
            if self.sure(one, other, True):
                return (operands[2],)
            return (operands[3],) if self.sure(other, one, False) else None
        first, second = ((one, other), (other, one)) if sign == 'least' else ((other, one), (one, other))
        if self.sure(first[0], first[1], False):
            return (one,)
        return (other,) if self.sure(second[0], second[1], False) else None

    def rule_three(self, name):
        sure = self.sure_operand(name)
        if sure is not None:
            return self.line(sure[0])
        _, sign, operands, _, _ = self.steps[name]
        if sign == 'choose' and self.line(operands[2]) == self.line(operands[3]):
            return self.line(operands[2])
        return None

    def plain(self):
        """The names of the steps that keep their line by rule 2."""
        return tuple(sorted(name for name in rounding_steps(self.program)
                            if self.range(name) is not None and self.rule_two(name) is not None))

    def lots(self):
        """The names in lots: all pairs are gone through until no two more become one."""
        nodes = self.names() + sorted({part for step in self.program.steps for part in step[2]
                                       if not isinstance(part, str)})
        groups = [{node} for node in nodes]
        while True:
            pair = next(((g, h) for g in groups for h in groups if g is not h
                         and any(self.of_one(x, y, groups) for x in g for y in h)), None)
            if pair is None:
                break
            groups = [g for g in groups if g is not pair[0] and g is not pair[1]] + [pair[0] | pair[1]]
        rows = [tuple(name for name in self.names() if name in group) for group in groups]
        return tuple(sorted([row for row in rows if row], key=lambda row: self.names().index(row[0])))

    def of_one(self, one, other, groups):
        """Whether two names or numbers are told to be of one lot."""
        def together(x, y):
            return any(x in group and y in group for group in groups)
        if self.line(one) is not None and self.line(one) == self.line(other):
            return True
        if one in self.steps and self.steps[one][1] in ('least', 'most', 'choose'):
            if self.sure_operand(one) == (other,):
                return True
        if one not in self.steps or other not in self.steps:
            return False
        a, b = self.steps[one], self.steps[other]
        if (a[1], a[3], a[4]) != (b[1], b[3], b[4]):
            return False
        ways = [b[2], b[2][::-1]] if a[1] in ('+', '*', 'least', 'most') else [b[2]]
        return any(all(together(x, y) for x, y in zip(a[2], way)) for way in ways)
