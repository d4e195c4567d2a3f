"""What boxes decide, and what trees of cuts tell, slow and plain, straight from the document's words."""

from fractions import Fraction

from tests import slow

EXACT_KINDS = ('nearest', 'off', 'sure', 'straight')


class Ruled:
    """Which alternatives of the table apply to a claim on a box that is no point."""

    def __init__(self, program, claim, box):
        self.program, self.claim, self.box = program, claim, box
        self.grid = program.grid
        self.run, self.exact = slow.Told(program, box), slow.Told(program, box, True)

    def is_open(self):
        """Whether it is open, whatever the table tells."""
        if any(self.run.range(name) is None for name in self.run.names()):
            return True
        return self.claim[0] in EXACT_KINDS and self.exact.range(self.claim[1]) is None

    def difference(self, one, other):
        """The ends of a difference of two lines, None if one of both is not told."""
        if one is None or other is None:
            return None
        line = tuple(x - y for x, y in zip(one, other))
        return (self.run.at(line, True), self.run.at(line, False))

    def lines(self, one, other):
        return self.difference(self.run.line(one), self.run.line(other))

    def ends(self, name):
        """The ends of a name's line, None without one."""
        line = self.run.line(name)
        return line and (self.run.at(line, True), self.run.at(line, False))

    def alike(self, one, other):
        return any(one in lot and other in lot for lot in self.run.lots())

    def side(self, told, one, other):
        """The side of a choose, as told by ranges and lines: C, D or None."""
        (a, b), (c, d) = told.range(one), told.range(other)
        ends = self.difference(told.line(one), told.line(other))
        if b < c or ends and ends[1] < 0:
            return 'C'
        return 'D' if a >= d or ends and ends[0] >= 0 else None

    def same_lines(self, part):
        """Whether L and Y are told of it, and the same."""
        return self.run.line(part) is not None and self.run.line(part) == self.exact.line(part)

    def table(self):
        """(so, not): for each one the alternatives, whether they apply."""
        return getattr(self, self.claim[0])(*self.claim[1:])

    def sound(self):
        return [True], []

    def within(self, name, low, high):
        (a, b), ends = self.run.range(name), self.ends(name)
        return ([low <= a and b <= high, ends and low <= ends[0] and ends[1] <= high],
                [b < low, ends and ends[1] < low, a > high, ends and ends[0] > high])

    def atmost(self, name, other):
        (a, b), (c, d) = self.run.range(name), self.run.range(other)
        ends = self.lines(name, other)
        return [b <= c, self.alike(name, other), ends and ends[1] <= 0], [a > d, ends and ends[0] > 0]

    def same(self, name, other):
        (a, b), (c, d) = self.run.range(name), self.run.range(other)
        ends = self.lines(name, other)
        return ([self.alike(name, other), a == b == c == d],
                [b < c, d < a, ends and not ends[0] <= 0 <= ends[1]])

    def plain(self, name):
        return [name not in slow.rounding_steps(self.program), name in self.run.plain()], []

    def nearest(self, name):
        (a, b), (x, y) = self.run.range(name), self.exact.range(name)
        low, high = slow.rounded(self.grid, x, 'near'), slow.rounded(self.grid, y, 'near')
        by_line = self.same_lines(name) and self.run.by_units(self.run.line(name), self.grid.figures)
        told = None not in (low, high)
        return [by_line, told and low == high == a == b], [told and b < low, told and a > high]

    def off(self, name, number):
        (a, b), (x, y) = self.run.range(name), self.exact.range(name)
        ends = self.difference(self.run.line(name), self.exact.line(name))
        return ([abs(a - y) <= number and abs(b - x) <= number, ends and -number <= ends[0] and ends[1] <= number],
                [b < x and x - b > number, y < a and a - y > number])

    def sure(self, name, number):
        (a, b), (x, y) = self.run.range(name), self.exact.range(name)
        return ([-number <= a and b <= number, x > 0 and a >= -number, y < 0 and b <= number, self.same_lines(name)],
                [a > number and y <= 0, b < -number and x >= 0])

    def straight(self, name):
        one, other = next(step[2][:2] for step in self.program.steps if step[0] == name)
        sides = self.side(self.run, one, other), self.side(self.exact, one, other)
        return ([None not in sides and sides[0] == sides[1], self.same_lines(one) and self.same_lines(other)],
                [None not in sides and sides[0] != sides[1]])


def is_point(box):
    return all(low == high for low, high in box)


def decided(program, claim, box):
    """What a box decides of a claim."""
    if is_point(box):
        return 'so' if slow.is_so(program, claim, tuple(low for low, _ in box)) else 'not'
    ruled = Ruled(program, claim, box)
    if ruled.is_open():
        return 'open'
    so, against = ruled.table()
    return 'so' if any(so) else 'not' if any(against) else 'open'


def gone_down(program, box, tree, words):
    """The leaves, (word, box), that any value comes to as a tree; None for what is none."""
    if type(tree) is tuple and len(tree) == 1 and type(tree[0]) is str and tree[0] in words:
        return [(tree[0], box)]
    if type(tree) is not tuple or len(tree) != 5 or tree[0] != 'cut':
        return None
    _, name, at, below, above = tree
    names = [row[0] for row in program.inputs]
    if type(name) is not str or name not in names or type(at) is not int:
        return None
    place = names.index(name)
    numbers = sorted({row[place] for row in slow.inputs_of(program, box)})
    if at not in numbers[:-1]:
        return None
    first = box[:place] + ((box[place][0], at),) + box[place + 1:]
    second = box[:place] + ((numbers[numbers.index(at) + 1], box[place][1]),) + box[place + 1:]
    one, other = gone_down(program, first, below, words), gone_down(program, second, above, words)
    return None if one is None or other is None else one + other


def whole(program):
    return tuple((low, high) for _, low, high in program.inputs)


def are_inputs(program, value, box=None):
    """Whether any value is inputs in a box, the whole one if none is told."""
    if type(value) is not tuple or len(value) != len(program.inputs) or any(type(part) is not int for part in value):
        return False
    return value in slow.inputs_of(program, box)


def proves(program, claim, value, box=None):
    """Whether any value is a proof of the claim, or that it is broken, on a box."""
    box = box or whole(program)
    if type(value) is not tuple or len(value) != 2:
        return False
    if value[0] == 'broken':
        return are_inputs(program, value[1], box) and not slow.is_so(program, claim, value[1])
    rows = gone_down(program, box, value[1], ('box',)) if value[0] == 'cut' else None
    return rows is not None and all(decided(program, claim, part) == 'so' for _, part in rows)


def parts_by(program, claim, value):
    """Whether any value is a tree that parts what is so and what is not."""
    rows = gone_down(program, whole(program), value, ('so', 'not'))
    return rows is not None and all(decided(program, claim, part) == word for word, part in rows)


def bounds(program, name, box):
    """(the least end above, the greatest end below, the least distance) that are told of a name, None in their place."""
    run, exact = slow.Told(program, box), slow.Told(program, box, True)
    highs, lows, offs = [], [], []
    for ends in (run.range(name), run.line(name) and (run.at(run.line(name), True), run.at(run.line(name), False))):
        if ends is not None:
            lows.append(ends[0])
            highs.append(ends[1])
    one, other = run.range(name), exact.range(name)
    if one is not None and other is not None:
        offs.append(max(one[1] - other[0], other[1] - one[0]))
    one, other = run.line(name), exact.line(name)
    if one is not None and other is not None:
        line = tuple(x - y for x, y in zip(one, other))
        offs.append(max(abs(run.at(line, True)), abs(run.at(line, False))))
    return min(highs, default=None), max(lows, default=None), min(offs, default=None)


def come(program, name, inputs):
    """(the worth, the exact worth) of a name, None where it does not come."""
    exact = slow.walk(program, inputs, slow.rounding_steps(program))[0]
    return slow.walk(program, inputs)[0].get(name), exact.get(name)


def straight_on(program, one, other, box):
    """Whether a leaf may stand on a box in a tree that tells that a comparison is straight."""
    if is_point(box):
        return not is_turned(program, one, other, tuple(low for low, _ in box))
    run, exact = slow.Told(program, box), slow.Told(program, box, True)
    below = [told.sure(one, other, True) for told in (run, exact)]
    above = [told.sure(other, one, False) for told in (run, exact)]
    return all(below) or all(above)


def is_turned(program, one, other, inputs):
    """Whether both come in both runs, and one is less in just one of these."""
    pairs = list(zip(come(program, one, inputs), come(program, other, inputs)))
    if any(part is None for pair in pairs for part in pair):
        return False
    return (pairs[0][0] < pairs[0][1]) != (pairs[1][0] < pairs[1][1])


def fraction(value):
    """A Fraction of a pair in least terms, None for what is none."""
    if type(value) is not tuple or len(value) != 2 or any(type(part) is not int for part in value) or value[1] < 1:
        return None
    found = Fraction(*value)
    return found if slow.pair_of(found) == value else None
