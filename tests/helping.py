"""What the tests share: refusals, wrong values, and programs made by chance from a seed."""

import unittest

from roundedsteps.errors import RoundError
from roundedsteps.grids import Grid
from roundedsteps.programs import Program

SMALL_TEXT = 'grid 2 3 2 0\ninput a 0 7\ninput b 0 7\ns = a + b\nt = s - b\ntell t'


def deep(times):
    """A tuple that many times within tuples."""
    value = ()
    for _ in range(times):
        value = (value,)
    return value


def wrong_values():
    """Values of all kinds that are not integers, nor anything else that is asked for here."""
    return [True, False, None, '', 'x', '1', ' ', (), (1,), (True,), (None,), ('x',), [], [1], [(0, 1)], {}, {1: 2},
            {'a': ()}, Grid(2, 3, 2, 0), Program(SMALL_TEXT), deep(29), (1, [2]), ((), ()), ('s', 1, 2, 3, 4)]


class Case(unittest.TestCase):
    """A test case that knows refusals."""

    def refused(self, error, value, call, *told, **named):
        """The call raises just this error, which keeps this very value."""
        found = self.error_of(call, *told, **named)
        self.assertIs(type(found), error)
        self.assertIs(found.value, value)

    def refused_with(self, error, value, call, *told, **named):
        """The call raises just this error, with an equal value that was made for it."""
        found = self.error_of(call, *told, **named)
        self.assertIs(type(found), error)
        self.assertEqual(found.value, value)
        self.assertIs(type(found.value), type(value))

    def error_of(self, call, *told, **named):
        """The error that the call raises."""
        with self.assertRaises(RoundError) as caught:
            call(*told, **named)
        return caught.exception

    def same(self, found, wanted):
        """Both are equal, and of the same kinds in all their parts."""
        self.assertEqual(found, wanted)
        self.assertTrue(same_kinds(found, wanted), (found, wanted))


def same_kinds(one, other):
    """Whether two equal values are of the same kinds in all their parts: 1 is not True, a list no tuple."""
    if type(one) is not type(other):
        return False
    if isinstance(one, (tuple, list)):
        return len(one) == len(other) and all(same_kinds(part, also) for part, also in zip(one, other))
    return True


def some_operand(chance, grid, names):
    """A name that is told ahead, now and then a number."""
    if chance.random() < 0.8:
        return chance.choice(names)
    return some_number(chance, grid)


def some_number(chance, grid):
    """A number of the grid, most often a small one."""
    last = grid.rank(grid.greatest)
    most = min(last, chance.choice([1, 3, 8, 40, last]))
    return grid.number(chance.randint(-most, most))


def some_step(chance, grid, name, names):
    """The line of a step of any sign."""
    sign = chance.choice(['+', '+', '-', '-', '-', '*', '/', 'least', 'most', 'choose'])
    parts = [str(some_operand(chance, grid, names)) for _ in range(4)]
    if sign == 'choose':
        return f'{name} = choose ' + ' '.join(parts)
    if sign in ('least', 'most'):
        return f'{name} = {sign} {parts[0]} {parts[1]}'
    line = f'{name} = {parts[0]} {sign} {parts[1]}'
    if chance.random() < 0.25:
        line += f' keep {chance.randint(1, 3)}'
    if chance.random() < 0.4:
        line += ' way ' + chance.choice(['down', 'up', 'zero'])
    return line


def some_range(chance, grid, most):
    """A low and a high with at most so many numbers."""
    last = grid.rank(grid.greatest)
    reached = min(last, chance.choice([5, 12, 60]))
    first = chance.randint(-reached, reached)
    behind = min(last, first + chance.randint(0, most - 1))
    return grid.number(first), grid.number(behind)


def some_program(chance, most_steps=7, most_numbers=6):
    """A small program."""
    grid = Grid(chance.choice([2, 2, 2, 3, 4, 5, 7, 10, 10]), chance.randint(1, 4), chance.randint(0, 6),
                chance.choice([0, 0, 0, 1, 2]))
    lines = [f'grid {grid.base} {grid.figures} {grid.reach} {grid.places}']
    names = []
    for name in ['a', 'b', 'c'][:chance.choice([1, 2, 2, 2, 3])]:
        low, high = some_range(chance, grid, most_numbers)
        lines.append(f'input {name} {low} {high}')
        names.append(name)
    for number in range(chance.randint(0, most_steps)):
        name = f's{number}'
        lines.append(some_step(chance, grid, name, names))
        names.append(name)
    lines.append('tell ' + ' '.join(chance.choice(names) for _ in range(chance.randint(1, 4))))
    return Program('\n'.join(lines))


def some_box(chance, program):
    """A box of the program."""
    box = []
    for _, low, high in program.inputs:
        ranks = sorted([chance.randint(program.grid.rank(low), program.grid.rank(high)) for _ in range(2)])
        box.append((program.grid.number(ranks[0]), program.grid.number(ranks[1])))
    return tuple(box)


def turned_step(step):
    """The step with its numbers turned about at 0, ways down and up, least and most, A and B of choose exchanged."""
    name, sign, operands, more, way = step
    parts = [operand if isinstance(operand, str) else -operand for operand in operands]
    if sign == 'choose':
        parts = [parts[1], parts[0], parts[2], parts[3]]
    sign = {'least': 'most', 'most': 'least'}.get(sign, sign)
    way = {'down': 'up', 'up': 'down'}.get(way, way)
    return name, sign, tuple(parts), more, way
