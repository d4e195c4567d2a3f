"""Section 11: lines and likeness."""

import random
import unittest
from fractions import Fraction

from roundedsteps.boxes import whole_box
from roundedsteps.errors import BadBox, BadLine
from roundedsteps.lines import alike, exact_lines, line_ends, lines, plain_steps
from roundedsteps.programs import Program
from roundedsteps.runs import exact_worths, worths
from tests import slow
from tests.helping import Case, some_box, some_program, wrong_values
from tests.test_boxes import BACK, WHOLE, wrong_boxes


def told_lines(told, part_of):
    """The lines that the slow reckoning tells, integers made by part_of."""
    rows = [(name, told.line(name)) for name in told.names()]
    return tuple((name, None if line is None else tuple(part_of(part) for part in line)) for name, line in rows)


def worth_at(line, inputs):
    """What a line is at inputs."""
    return line[0] + sum(part * number for part, number in zip(line[1:], inputs))


def folded(line, box):
    """The line, c0 taking in what has become a number."""
    alone = sum(part * low for part, (low, high) in zip(line[1:], box) if low == high)
    return (line[0] + alone,) + tuple(0 if low == high else part for part, (low, high) in zip(line[1:], box))


class Against(Case):
    """Lines, plain steps and lots held against the rules' words, and against all runs."""

    def test_the_rules(self):
        chance = random.Random(31)
        for _ in range(500):
            program = some_program(chance)
            for box in (whole_box(program), some_box(chance, program)):
                told = slow.Told(program, box)
                self.same(lines(program, box), told_lines(told, int))
                self.same(plain_steps(program, box), told.plain())
                self.same(alike(program, box), told.lots())
                self.same(exact_lines(program, box), told_lines(slow.Told(program, box, True), slow.pair_of))

    def test_all_runs_in_a_box(self):
        chance = random.Random(32)
        for _ in range(300):
            program = some_program(chance)
            box = some_box(chance, program)
            steps = {step[0]: step for step in program.steps}
            for inputs in slow.inputs_of(program, box):
                known, exact = dict(worths(program, inputs)), dict(exact_worths(program, inputs))
                for name, line in lines(program, box):
                    if line is not None:
                        self.assertEqual(worth_at(line, inputs), known[name])
                for name, line in exact_lines(program, box):
                    if line is not None:
                        worth = worth_at([Fraction(*part) for part in line], inputs)
                        self.assertEqual(slow.pair_of(worth), exact[name])
                for name in plain_steps(program, box):
                    parts = [Fraction(known[part] if isinstance(part, str) else part) for part in steps[name][2]]
                    self.assertEqual(slow.outcome(program.grid, steps[name][1], *parts), known[name])
                for lot in alike(program, box):
                    self.assertLessEqual(len({known[name] for name in lot if name in known}), 1)

    def test_boxes_within(self):
        chance = random.Random(33)
        for _ in range(300):
            program = some_program(chance)
            box = some_box(chance, program)
            within = some_box(chance, program.narrowed(box))
            for (_, line), (_, also) in zip(lines(program, box), lines(program, within)):
                if line is not None:
                    self.assertEqual(folded(also, within), folded(line, within))
            self.assertLessEqual(set(plain_steps(program, box)), set(plain_steps(program, within)))
            lots = {name: lot for lot in alike(program, within) for name in lot}
            for lot in alike(program, box):
                self.assertEqual(len({lots[name] for name in lot}), 1)

    def test_lots_have_each_name_once(self):
        chance = random.Random(34)
        for _ in range(100):
            program = some_program(chance)
            lots = alike(program, whole_box(program))
            self.assertEqual(sorted(name for lot in lots for name in lot), sorted(program.names))
            places = {name: place for place, name in enumerate(program.names)}
            self.assertEqual(list(lots), sorted(lots, key=lambda lot: places[lot[0]]))
            for lot in lots:
                self.assertEqual(list(lot), sorted(lot, key=lambda name: places[name]))


class Rules(Case):
    """Each rule by itself."""

    def program(self, *steps, grid='2 3 4 0', inputs=('a 8 14', 'b 8 14')):
        return Program('\n'.join([f'grid {grid}', *[f'input {row}' for row in inputs], *steps, 'tell a']))

    def line(self, *steps, **told):
        """The line of the last one of these steps on the whole box."""
        program = self.program(*steps, **told)
        return lines(program, whole_box(program))[-1][1]

    def exact_line(self, *steps, **told):
        program = self.program(*steps, **told)
        return exact_lines(program, whole_box(program))[-1][1]

    def plain(self, *steps, **told):
        program = self.program(*steps, **told)
        return plain_steps(program, whole_box(program))

    def lots(self, *steps, **told):
        program = self.program(*steps, **told)
        return alike(program, whole_box(program))

    def test_inputs_and_numbers(self):
        program = self.program('s = least 3 3')
        self.same(lines(program, ((8, 8), (8, 14))), (('a', (8, 0, 0)), ('b', (0, 0, 1)), ('s', (3, 0, 0))))
        self.same(exact_lines(program, ((8, 8), (8, 14))),
                  (('a', ((8, 1), (0, 1), (0, 1))), ('b', ((0, 1), (0, 1), (1, 1))), ('s', ((3, 1), (0, 1), (0, 1)))))

    def test_a_range_of_one_number(self):
        # 14 + 14 becomes 28; 8 + 1 becomes 8, which is not its line by what it does.
        program = self.program('s = a + 1')
        self.same(lines(program, ((8, 8), (8, 8)))[-1][1], (8, 0, 0))
        self.same(plain_steps(program, ((8, 8), (8, 8))), ())
        self.same(plain_steps(program, ((10, 10), (8, 8))), ())
        self.same(plain_steps(self.program('s = a + 2'), ((8, 8), (8, 8))), ('s',))
        self.same(self.line('s = a * 0'), (0, 0, 0))
        self.same(self.plain('s = a * 0'), ('s',))

    def test_sums_by_units(self):
        # Units of 2: up to 14 all is kept, and 16 is not.
        self.same(self.line('s = a + b'), None)
        self.same(self.line('s = a + 0'), (0, 1, 0))
        self.same(self.line('s = a + b', inputs=('a 0 3', 'b 0 4')), (0, 1, 1))
        self.same(self.line('s = a + b', inputs=('a 0 4', 'b 0 4')), None)
        self.same(self.line('s = a + b', inputs=('a 8 10', 'b 0 4')), None)
        self.same(self.line('s = a + 2', inputs=('a 8 12',)), (2, 1))
        self.same(self.line('s = a + 2', inputs=('a 8 14',)), None)
        self.same(self.line('s = a + 1', inputs=('a 8 12',)), None)
        self.same(self.line('s = a + 1 keep 1', inputs=('a 8 12',)), (1, 1))
        self.same(self.line('s = a + 1 keep 1', inputs=('a 8 14',)), (1, 1))
        self.same(self.line('s = a + 2 keep 1', inputs=('a 8 14',)), (2, 1))
        self.same(self.line('s = a + a', inputs=('a 0 3',)), (0, 2))
        self.same(self.line('s = a + -8', inputs=('a -14 -8',)), None)
        self.same(self.line('s = a - -8', inputs=('a -14 -8',)), (8, 1))

    def test_units_of_products(self):
        self.same(self.line('s = a + a', grid='2 3 0 0', inputs=('a 0 3',)), (0, 2))
        self.same(self.line('s = a + a', grid='2 3 1 0', inputs=('a 8 14',)), None)
        self.same(self.line('s = a + a', grid='2 3 2 0', inputs=('a 8 14',)), (0, 2))
        self.same(self.line('s = 8 * a', grid='2 3 1 0', inputs=('a 1 1',)), (8, 0))
        self.same(self.line('s = 4 * a', grid='2 3 3 0', inputs=('a 8 14',)), (0, 4))
        self.same(self.line('s = 4 * a', grid='2 3 2 0', inputs=('a 0 7',)), (0, 4))
        self.same(self.line('s = 3 * a', grid='2 3 4 0', inputs=('a 0 3',)), None)
        self.same(self.line('s = 3 * a', grid='2 3 4 0', inputs=('a 0 2',)), (0, 3))

    def test_units_with_nought_in_the_box(self):
        self.same(self.line('s = a - b', inputs=('a -14 14', 'b 1 1')), None)
        self.same(self.line('s = a + 4', inputs=('a -4 3',)), (4, 1))
        self.same(self.line('s = a + 2', inputs=('a -14 -8',)), (2, 1))
        self.same(self.line('s = a - 2', inputs=('a -14 -8',)), None)
        self.same(self.line('s = a - a', inputs=('a -14 14',)), (0, 0))

    def test_differences_by_halves(self):
        # Units are 1, as 5 is in it, and 10 is not below 8.
        self.same(self.line('s = a - 10', inputs=('a 5 20',)), (-10, 1))
        self.same(self.line('s = 10 - a', inputs=('a 5 20',)), (10, -1))
        self.same(self.line('s = a - -10', inputs=('a -20 -5',)), (10, 1))
        self.same(self.line('s = a - b', inputs=('a 5 20', 'b 10 10')), (-10, 1, 0))
        self.same(self.line('s = a + -10', inputs=('a 5 20',)), None)
        self.same(self.line('s = a - 10', inputs=('a 5 24',)), None)
        self.same(self.line('s = a - 10', inputs=('a 4 20',)), None)
        self.same(self.line('s = a - 10', inputs=('a -20 -5',)), None)
        self.same(self.line('s = a - b', inputs=('a 5 20', 'b 8 10')), None)
        self.same(self.line('s = a - -9', grid='3 2 4 0', inputs=('a -18 -5',)), (9, 1))
        self.same(self.line('s = a - -9', grid='3 2 4 0', inputs=('a -18 -4',)), None)
        self.same(self.line('s = a - 9', grid='3 2 4 0', inputs=('a 5 18',)), (-9, 1))
        self.same(self.line('s = a - 9', grid='3 2 4 0', inputs=('a 4 18',)), None)
        self.same(self.plain('s = a - 10', 't = a + -10', 'u = 10 - a', inputs=('a 5 20',)), ('s', 'u'))

    def test_figures_of_operands(self):
        # What keeps more figures is taken by halves by no step of fewer.
        inputs = ('a 5 20',)
        kept = 's = a + 0 keep 2'
        self.same(self.line(kept, inputs=inputs), (0, 1))
        self.same(self.line(kept, 't = s - 10', inputs=inputs), None)
        self.same(self.line(kept, 't = 10 - s', inputs=inputs), None)
        self.same(self.line(kept, 't = s - 10 keep 2', inputs=inputs), (-10, 1))
        for taken in ('least s 28', 'least 28 s', 'most s 1', 'least a s', 'most s a', 'choose 1 2 s a', 'choose 2 1 a s',
                      'choose 1 2 a s', 'choose 2 1 s a', 'choose a 10 a s'):
            self.same(self.line(kept, f'm = {taken}', inputs=inputs), (0, 1))
            self.same(self.line(kept, f'm = {taken}', 't = m - 10', inputs=inputs), None)
            self.same(self.line(kept, f'm = {taken}', 'n = least m m', 't = 10 - n', inputs=inputs), None)
        for taken in ('least a 28', 'most 1 a', 'choose 1 s a a', 'choose s 1 a a', 'choose a 10 a a'):
            self.same(self.line(kept, f'm = {taken}', 't = m - 10', inputs=inputs), (-10, 1))

    def test_products(self):
        grid = '10 3 3 1'
        self.same(self.line('s = a * 20', grid=grid, inputs=('a 1 5',)), (0, 2))
        self.same(self.line('s = -20 * a', grid=grid, inputs=('a 1 5',)), (0, -2))
        self.same(self.line('s = a * 25', grid=grid, inputs=('a 2 4',)), None)
        self.same(self.line('s = b * a', grid=grid, inputs=('a 1 5', 'b 30 30')), (0, 3, 0))
        self.same(self.line('s = a * a', grid=grid, inputs=('a 1 5',)), None)
        self.same(self.line('s = a - a', 't = s * b', grid=grid, inputs=('a 1 5', 'b 1 990')), (0, 0, 0))
        self.same(self.line('s = 30 * 25', grid=grid, inputs=('a 1 5',)), (75, 0))
        self.same(self.line('s = 25 * 25', grid=grid, inputs=('a 1 5',)), (62, 0))
        self.same(self.plain('s = 25 * 25', 't = 25 * 30', grid=grid, inputs=('a 1 5',)), ('t',))
        self.same(self.line('s = a * a', 't = 20 * s', grid=grid, inputs=('a 1 5',)), None)

    def test_quotients(self):
        grid = '10 3 3 1'
        self.same(self.line('s = a / 5', grid=grid, inputs=('a 1 5',)), (0, 2))
        self.same(self.line('s = a / -2', grid=grid, inputs=('a 1 5',)), (0, -5))
        self.same(self.line('s = a / 10', grid=grid, inputs=('a 1 5',)), (0, 1))
        self.same(self.line('s = a / 1', grid=grid, inputs=('a 1 5',)), (0, 10))
        self.same(self.line('s = a / 3', grid=grid, inputs=('a 1 5',)), None)
        self.same(self.line('s = a / 20', grid=grid, inputs=('a 2 4',)), None)
        self.same(self.line('s = 10 / a', grid=grid, inputs=('a 2 5',)), None)
        self.same(self.line('s = a - a', 't = a / s', grid=grid, inputs=('a 2 5',)), None)
        self.same(self.line('s = a / 2', grid=grid, inputs=('a 1 400',)), None)

    def test_the_line_of_a_number_need_no_range_of_one(self):
        program = self.program('s = a - a', 't = s + 1', grid='10 2 2 0', inputs=('a 1 50',))
        self.same(lines(program, ((1, 50),))[1:], (('s', (0, 0)), ('t', (1, 0))))

    def test_least_and_most(self):
        self.same(self.line('s = least a b', inputs=('a 1 3', 'b 3 5')), (0, 1, 0))
        self.same(self.line('s = most a b', inputs=('a 1 3', 'b 3 5')), (0, 0, 1))
        self.same(self.line('s = least b a', inputs=('a 1 3', 'b 3 5')), (0, 1, 0))
        self.same(self.line('s = least a b', inputs=('a 1 4', 'b 3 5')), None)
        self.same(self.line('s = a - 1', 't = least s a', inputs=('a 1 7',)), (-1, 1))
        self.same(self.line('s = a - 1', 't = most s a', inputs=('a 1 7',)), (0, 1))
        self.same(self.line('s = a - 0', 't = most s a', inputs=('a 1 7',)), (0, 1))
        self.same(self.line('s = a + b', 't = most s 1'), None)

    def test_choose(self):
        inputs = ('a 1 3', 'b 3 5')
        self.same(self.line('s = choose a b a 0', inputs=inputs), None)
        self.same(self.line('s = choose a b a a', inputs=inputs), (0, 1, 0))
        self.same(self.line('s = choose a 4 a 0', inputs=inputs), (0, 1, 0))
        self.same(self.line('s = choose b a a 0', inputs=inputs), (0, 0, 0))
        self.same(self.line('s = choose b a 0 a', inputs=inputs), (0, 1, 0))
        self.same(self.line('s = a - 1', 't = choose s a b 0', inputs=inputs), (0, 0, 1))
        self.same(self.line('s = a - 1', 't = choose a s 0 b', inputs=inputs), (0, 0, 1))
        self.same(self.line('s = a - 0', 't = choose a s 0 b', inputs=inputs), (0, 0, 1))
        self.same(self.line('s = a - 0', 't = choose a b s a', inputs=inputs), (0, 1, 0))
        inputs = ('a 8 14', 'b 8 14')
        self.same(self.line('s = a + b', 't = choose a b s s', inputs=inputs), None)
        self.same(self.line('s = a + b', 't = choose 1 2 s a', inputs=inputs), None)

    def test_behind_a_step_without_a_range(self):
        program = self.program('s = a / 0', 't = a - b', 'u = a - b', 'v = least a 28', 'w = most 5 5', 'x = least 5 6')
        self.same(lines(program, whole_box(program))[2:], tuple((name, None) for name in 'stuvwx'))
        self.same(plain_steps(program, whole_box(program)), ())
        self.same(exact_lines(program, whole_box(program))[2:], tuple((name, None) for name in 'stuvwx'))
        self.same(alike(program, whole_box(program)), (('a', 'v'), ('b',), ('s',), ('t', 'u'), ('w', 'x')))

    def test_exact_lines(self):
        self.same(self.exact_line('s = a + b'), ((0, 1), (1, 1), (1, 1)))
        self.same(self.exact_line('s = a * 3', grid='2 3 4 2'), ((0, 1), (3, 4), (0, 1)))
        self.same(self.exact_line('s = a / 3', 't = 5 - s', grid='2 3 4 2'), ((5, 1), (-4, 3), (0, 1)))
        self.same(self.exact_line('s = a / -3', grid='2 3 4 0'), ((0, 1), (-1, 3), (0, 1)))
        self.same(self.exact_line('s = a - a', 't = 5 / s'), None)
        self.same(self.exact_line('s = a / b'), None)
        self.same(self.exact_line('s = 10 / 3', 't = s * a'), ((0, 1), (10, 3), (0, 1)))
        self.same(self.exact_line('s = a / 3', 't = least s a'), ((0, 1), (1, 3), (0, 1)))
        self.same(self.exact_line('s = a + 1', 't = choose a s b 0'), ((0, 1), (0, 1), (1, 1)))
        self.same(self.line('s = a + 1', 't = choose a s b 0'), None)

    def test_lots_by_lines_and_forms(self):
        self.same(self.lots('s = a + b', 't = b + a', 'u = a * b', 'v = b * a'), (('a',), ('b',), ('s', 't'), ('u', 'v')))
        self.same(self.lots('s = a / b', 't = b / a', 'u = a / b'), (('a',), ('b',), ('s', 'u'), ('t',)))
        self.same(self.lots('s = a + b', 't = a + b keep 1', 'u = a + b way up', 'v = a + b keep 1'),
                  (('a',), ('b',), ('s',), ('t', 'v'), ('u',)))
        self.same(self.lots('s = least a b', 't = least b a', 'u = most b a', 'v = most a b'),
                  (('a',), ('b',), ('s', 't'), ('u', 'v')))
        self.same(self.lots('s = choose a b a b', 't = choose b a b a', 'u = choose a b a b'),
                  (('a',), ('b',), ('s', 'u'), ('t',)))
        self.same(self.lots('z = a - a', 's = b * 3', 't = b * n', inputs=('a 8 14', 'b 8 14', 'n 3 3')),
                  (('a',), ('b',), ('n',), ('z',), ('s', 't')))

    def test_lots_of_lots(self):
        self.same(self.lots('s = a + b', 't = b + a', 'u = s * s', 'v = t * s', 'w = u - v', 'x = v - u'),
                  (('a',), ('b',), ('s', 't'), ('u', 'v'), ('w', 'x')))
        self.same(self.lots('s = a + b', 'm = least s 24', 't = m + a', 'u = s + a'),
                  (('a',), ('b',), ('s',), ('m',), ('t',), ('u',)))
        self.same(self.lots('s = a + b', 'm = least s 28', 't = m + a', 'u = a + s'),
                  (('a',), ('b',), ('s', 'm'), ('t', 'u')))
        # What makes operands alike may stand behind the steps that are made alike.
        self.same(self.lots('s = a + b', 't = a + b', 'u = least s b', 'v = least b t'),
                  (('a',), ('b', 'u', 'v'), ('s', 't')))
        self.same(self.lots('s = a + b', 't = b + a', 'u = least s 24', 'v = least 24 t', 'w = u * v', 'x = u * u'),
                  (('a',), ('b',), ('s', 't'), ('u', 'v'), ('w', 'x')))

    def test_lots_that_a_later_step_makes_one(self):
        # p and q are a + b, but p's range is wider: j is sure to be q, and does what y does; so y is q, too.
        self.same(self.lots('s = a - 1 keep 1', 'm = choose s a a 0', 'p = m + b', 'q = a + b', 'y = most p 14',
                            'k = y * b', 'l = p * b', 'j = most q 14', grid='2 3 8 0'),
                  (('a', 'm'), ('b',), ('s',), ('p', 'q', 'y', 'j'), ('k', 'l')))

    def test_lots_with_numbers(self):
        self.same(self.lots('s = a - a', 't = b * 0', 'u = s + 12', 'v = most 12 0'),
                  (('a',), ('b',), ('s', 't'), ('u', 'v')))
        inputs = ('a 0 3', 'b 0 3')
        self.same(self.lots('s = a * b', 't = least s 0', 'u = t + b', 'v = 0 + b', inputs=inputs),
                  (('a',), ('b', 'u', 'v'), ('s',), ('t',)))
        self.same(self.lots('x = a / 0', 't = least a 0', 'u = t + b', 'v = 0 + b', 'w = b - 0', inputs=inputs),
                  (('a',), ('b',), ('x',), ('t',), ('u', 'v'), ('w',)))
        self.same(self.lots('s = 12 - 0', 't = s * b', 'u = b * 12', 'v = s / b', 'w = 12 / b'),
                  (('a',), ('b',), ('s',), ('t', 'u'), ('v', 'w')))

    def test_one_name_told_twice_is_not_sure(self):
        # It is not sure whether a is below b, and s has no line: so m is not told to be s.
        self.same(self.lots('s = a + b', 'm = choose a b s s'), (('a',), ('b',), ('s',), ('m',)))
        self.same(self.lots('m = choose a b a a'), (('a', 'm'), ('b',)))


class Ends(Case):
    """Ends of lines, and wrong arguments."""

    def test_line_ends(self):
        self.same(line_ends((5,), ()), (5, 5))
        self.same(line_ends((1, 2, -3), ((0, 10), (-1, 4))), (-11, 24))
        self.same(line_ends((0, 0, 0, 0, 0), ((0, 1), (2, 3), (4, 5), (6, 7))), (0, 0))
        self.same(line_ends(line=(1, -1), box=((7, 7),)), (-6, -6))
        self.same(line_ends((10 ** 50, 1), ((-10 ** 60, 101),)), (10 ** 50 - 10 ** 60, 10 ** 50 + 101))

    def test_all_points(self):
        chance = random.Random(35)
        for _ in range(100):
            line = tuple(chance.randint(-9, 9) for _ in range(chance.randint(1, 5)))
            box = tuple((low, low + chance.randint(0, 2)) for low in [chance.randint(-9, 9) for _ in line[1:]])
            rows = [()]
            for low, high in box:
                rows = [row + (number,) for row in rows for number in range(low, high + 1)]
            found = [worth_at(line, row) for row in rows]
            self.same(line_ends(line, box), (min(found), max(found)))

    def test_lines_refused(self):
        for value in wrong_values() + [5, [1, 2], (1, True), (1, (2,)), (1, '2'), (None, 1)]:
            if not (isinstance(value, tuple) and value == (1,) and value[0] is not True):
                self.refused(BadLine, value, line_ends, value, None)

    def test_boxes_refused(self):
        for value in wrong_values() + [((1, 2),) * 2, [(1, 2)], ([1, 2],), ((2, 1),), ((1, True),), ((1,),), ((1, 2, 3),),
                                       ((None, 2),), ('12',), 5, (1, 2)]:
            self.refused(BadBox, value, line_ends, (1, 2), value)
        box = ((1, 2),)
        self.refused(BadBox, box, line_ends, (1,), box)
        self.same(line_ends((1, 2), ((101, 101),)), (203, 203))

    def test_boxes_of_programs_refused(self):
        for value in wrong_boxes():
            for call in (lines, exact_lines, plain_steps, alike):
                self.refused(BadBox, value, call, BACK, value)
        for call in (lines, exact_lines, plain_steps, alike):
            self.same(call(program=BACK, box=WHOLE), call(BACK, WHOLE))

    def test_plain_steps_ascend(self):
        program = Program('grid 10 4 4 0\ninput a 1 9\nz = a + 1\ny = a - 1\nm = least y z\nb2 = a - a\nb10 = a + a\ntell a')
        self.same(plain_steps(program, ((1, 9),)), ('b10', 'b2', 'y', 'z'))


if __name__ == '__main__':
    unittest.main()
