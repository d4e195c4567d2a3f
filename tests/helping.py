"""What the tests share: refusals, wrong values, and programs made by chance from a seed."""

import unittest

from roundedsteps.bench import Bench
from roundedsteps.desk import Desk
from roundedsteps.errors import RoundError
from roundedsteps.grids import Grid
from roundedsteps.programs import Program

SMALL_TEXT = 'grid 2 3 2 0\ninput a 0 7\ninput b 0 7\ns = a + b\nt = s - b\ntell t'


def deep(times):
    """A tuple that many times within tuples."""
    value = ()
    for _ in range(times):
        value = (value,)
    return value


def wrong_values():
    """Values of all kinds that are not integers, nor anything else that is asked for here."""
    return [True, False, None, '', 'x', '1', ' ', (), (1,), (True,), (None,), ('x',), [], [1], [(0, 1)], {}, {1: 2},
            {'a': ()}, Grid(2, 3, 2, 0), Program(SMALL_TEXT), Bench(Program(SMALL_TEXT)), Desk(SMALL_TEXT + '\nbench'), deep(29),
            (1, [2]), ((), ()), ('s', 1, 2, 3, 4)]


class Case(unittest.TestCase):
    """A test case that knows refusals."""

    def refused(self, error, value, call, *told, **named):
        """The call raises just this error, which keeps this very value."""
        found = self.error_of(call, *told, **named)
        self.assertIs(type(found), error)
        self.assertIs(found.value, value)

    def refused_with(self, error, value, call, *told, **named):
        """The call raises just this error, with an equal value that was made for it."""
        found = self.error_of(call, *told, **named)
        self.assertIs(type(found), error)
        self.assertEqual(found.value, value)
        self.assertIs(type(found.value), type(value))

    def error_of(self, call, *told, **named):
        """The error that the call raises."""
        with self.assertRaises(RoundError) as caught:
            call(*told, **named)
        return caught.exception

    def same(self, found, wanted):
        """Both are equal, and of the same kinds in all their parts."""
        self.assertEqual(found, wanted)
        self.assertTrue(same_kinds(found, wanted), (found, wanted))


def same_kinds(one, other):
    """Whether two equal values are of the same kinds in all their parts: 1 is not True, a list no tuple."""
    if type(one) is not type(other):
        return False
    if isinstance(one, (tuple, list)):
        return len(one) == len(other) and all(same_kinds(part, also) for part, also in zip(one, other))
    return True


def some_operand(chance, grid, names):
    """A name that is told ahead, now and then a number."""
    if chance.random() < 0.8:
        return chance.choice(names)
    return some_number(chance, grid)


def some_number(chance, grid):
    """A number of the grid, most often a small one."""
    last = grid.rank(grid.greatest)
    most = min(last, chance.choice([1, 3, 8, 40, last]))
    return grid.number(chance.randint(-most, most))


def some_step(chance, grid, name, names):
    """The line of a step of any sign."""
    sign = chance.choice(['+', '+', '-', '-', '-', '*', '/', 'least', 'most', 'choose'])
    parts = [str(some_operand(chance, grid, names)) for _ in range(4)]
    if sign == 'choose':
        return f'{name} = choose ' + ' '.join(parts)
    if sign in ('least', 'most'):
        return f'{name} = {sign} {parts[0]} {parts[1]}'
    line = f'{name} = {parts[0]} {sign} {parts[1]}'
    if chance.random() < 0.25:
        line += f' keep {chance.randint(1, 3)}'
    if chance.random() < 0.4:
        line += ' way ' + chance.choice(['down', 'up', 'zero'])
    return line


def some_range(chance, grid, most):
    """A low and a high with at most so many numbers."""
    last = grid.rank(grid.greatest)
    reached = min(last, chance.choice([5, 12, 60]))
    first = chance.randint(-reached, reached)
    behind = min(last, first + chance.randint(0, most - 1))
    return grid.number(first), grid.number(behind)


def some_program(chance, most_steps=7, most_numbers=6):
    """A small program."""
    grid = Grid(chance.choice([2, 2, 2, 3, 4, 5, 7, 10, 10]), chance.randint(1, 4), chance.randint(0, 6),
                chance.choice([0, 0, 0, 1, 2]))
    lines = [f'grid {grid.base} {grid.figures} {grid.reach} {grid.places}']
    names = []
    for name in ['a', 'b', 'c'][:chance.choice([1, 2, 2, 2, 3])]:
        low, high = some_range(chance, grid, most_numbers)
        lines.append(f'input {name} {low} {high}')
        names.append(name)
    for number in range(chance.randint(0, most_steps)):
        name = f's{number}'
        lines.append(some_step(chance, grid, name, names))
        names.append(name)
    lines.append('tell ' + ' '.join(chance.choice(names) for _ in range(chance.randint(1, 4))))
    return Program('\n'.join(lines))


def some_box(chance, program):
    """A box of the program."""
    box = []
    for _, low, high in program.inputs:
        ranks = sorted([chance.randint(program.grid.rank(low), program.grid.rank(high)) for _ in range(2)])
        box.append((program.grid.number(ranks[0]), program.grid.number(ranks[1])))
    return tuple(box)


def turned_step(step):
    """The step with its numbers turned about at 0, ways down and up, least and most, A and B of choose exchanged."""
    name, sign, operands, more, way = step
    parts = [operand if isinstance(operand, str) else -operand for operand in operands]
    if sign == 'choose':
        parts = [parts[1], parts[0], parts[2], parts[3]]
    sign = {'least': 'most', 'most': 'least'}.get(sign, sign)
    way = {'down': 'up', 'up': 'down'}.get(way, way)
    return name, sign, tuple(parts), more, way


def some_twisted(chance):
    """A program whose differences often come to the other side of 0."""
    ways = [chance.choice(['', ' way up', ' way down', ' way zero']) for _ in range(2)]
    low = chance.choice([20, 24, 28])
    lines = [f'grid 2 {chance.choice([3, 4])} 4 0', f'input a {low} 28', f'input b {chance.randint(-4, 1)} {chance.randint(1, 4)}',
             's0 = a + b' + ways[0], f's1 = {chance.choice([20, 24])} + {chance.choice([1, 2, 3])}' + ways[1],
             f's2 = {chance.choice(["s0 - s1", "s1 - s0", "a - s1", "s0 - a"])}', 's3 = choose s0 s1 a b']
    return Program('\n'.join(lines + ['tell s2']))


def some_claims(chance, program):
    """Claims of all sorts about the program."""
    name, other = chance.choice(program.names), chance.choice(program.names)
    low = chance.randint(-30, 30)
    number = chance.choice([0, 0, 1, 1, 2, 5, 20])
    claims = [('sound',), ('within', name, low, low + chance.choice([0, 3, 30])), ('atmost', name, other),
              ('same', name, other), ('plain', name), ('nearest', name), ('off', name, number), ('sure', name, number)]
    return claims + [('straight', step[0]) for step in program.steps if step[1] == 'choose'][:2]


def paths(value, ahead=()):
    """The ways to all parts of a value, itself with them."""
    found = [ahead]
    if isinstance(value, tuple):
        for place, part in enumerate(value):
            found += paths(part, ahead + (place,))
    return found


def part_at(value, path):
    """The part at the end of a way."""
    for place in path:
        value = value[place]
    return value


def exchanged_at(value, path, part):
    """The value with another part at the end of a way."""
    if not path:
        return part
    place = path[0]
    return value[:place] + (exchanged_at(value[place], path[1:], part),) + value[place + 1:]


def part_variants(chance, part):
    """Other values for a part: of other kinds, next to it, shorter, longer, in another sequence."""
    if isinstance(part, str):
        return [chance.choice(['box', 'cut', 'so', 'not', 'in', 'out', 'broken', 'a', 'b', 'x', 's0', 's1']), None, 0, (part,)]
    if part is None:
        return [0, (), False]
    if isinstance(part, int):
        return [part + 1, part - 1, -part, str(part), None, (part,)] + [bool(part)] * 3 * (part in (0, 1))
    found = [list(part), (), part + (None,), part + part[-1:], None, part[::-1]]
    for place in range(len(part)):
        found += [part[:place] + part[place + 1:], part[place]]
        if place:
            found.append(part[:place - 1] + (part[place], part[place - 1]) + part[place + 1:])
    return found


def variants(chance, value, many):
    """So many values that are near a value, itself the first one."""
    found = [value]
    ways = paths(value)
    while len(found) < many:
        way = chance.choice(ways)
        found.append(exchanged_at(value, way, chance.choice(part_variants(chance, part_at(value, way)))))
    return found
