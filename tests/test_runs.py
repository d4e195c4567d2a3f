"""Section 8: runs."""

import random
import unittest
from fractions import Fraction

from roundedsteps.errors import BadInputs, BadLot, NoEnd
from roundedsteps.programs import Program
from roundedsteps.runs import exact_run, exact_worths, mixed_run, mixed_worths, off_by, run, worths
from tests import slow
from tests.helping import Case, some_program, turned_step, wrong_values

THERE = Program('grid 2 3 2 0\ninput a 0 7\ninput b 0 7\ns = a + b\nt = s - b\ntell t')
HEAD = 'grid 10 2 2 1\ninput a -99 120\ninput b -5 5\n'


def told_of(program, walk):
    """What a slow walk tells, fractions as pairs."""
    known, end = walk
    return end or ('tells', tuple(slow.pair_of(known[name]) for name in program.told))


def rows_of(walk):
    """The names and fractions of a slow walk."""
    return tuple((name, slow.pair_of(worth)) for name, worth in walk[0].items())


class Against(Case):
    """All inputs of small programs, held against the slow reckoning."""

    def test_all_runs(self):
        chance = random.Random(1)
        ends = set()
        for _ in range(350):
            program = some_program(chance)
            free = slow.rounding_steps(program)
            for inputs in slow.inputs_of(program):
                walk = slow.walk(program, inputs)
                plain = told_of(program, walk)
                wanted = ('tells', tuple(top for top, _ in plain[1])) if walk[1] is None else plain
                ends.add(wanted[0])
                self.same(run(program, inputs), wanted)
                self.same(worths(program, inputs), tuple((name, worth[0]) for name, worth in rows_of(walk)))
                exact = slow.walk(program, inputs, free)
                self.same(exact_run(program, inputs), told_of(program, exact))
                self.same(exact_worths(program, inputs), rows_of(exact))
        self.assertEqual(ends, {'tells', 'over', 'nought'})

    def test_all_mixed_runs(self):
        chance = random.Random(2)
        for _ in range(250):
            program = some_program(chance)
            names = slow.rounding_steps(program)
            lots = [(), tuple(sorted(names)), tuple(sorted(chance.sample(names, len(names) // 2)))]
            for inputs in slow.inputs_of(program)[:40]:
                for lot in lots:
                    walk = slow.walk(program, inputs, lot)
                    self.same(mixed_run(program, inputs, lot), told_of(program, walk))
                    self.same(mixed_worths(program, inputs, lot), rows_of(walk))
                self.assertEqual(mixed_run(program, inputs, lots[1]), exact_run(program, inputs))
                self.assertEqual([name for name, _ in mixed_worths(program, inputs, ())],
                                 [name for name, _ in worths(program, inputs)])

    def test_off_by(self):
        chance = random.Random(4)
        for _ in range(150):
            program = some_program(chance)
            for inputs in slow.inputs_of(program)[:40]:
                told, exact = run(program, inputs), exact_run(program, inputs)
                wrong = next((end for end in (told, exact) if end[0] != 'tells'), None)
                if wrong:
                    self.refused_with(NoEnd, wrong, off_by, program, inputs)
                    continue
                self.same(off_by(program, inputs), tuple(
                    slow.pair_of(worth - Fraction(*right)) for worth, right in zip(told[1], exact[1])))

    def test_turned_about(self):
        chance = random.Random(5)
        for program in without_products(chance, 100):
            other = turned_about(program)
            for inputs in slow.inputs_of(program):
                told = run(program, inputs)
                wanted = ('tells', tuple(-part for part in told[1])) if told[0] == 'tells' else told
                self.same(run(other, tuple(-number for number in inputs)), wanted)

    def test_multiplied_with_the_base(self):
        chance = random.Random(6)
        often = 0
        for program in without_products(chance, 300):
            base, most = program.grid.base, program.grid.greatest
            numbers = [part for step in program.steps for part in step[2] if not isinstance(part, str)]
            for inputs in slow.inputs_of(program):
                known = dict(worths(program, inputs))
                reached = all(abs(worth) * base <= most for worth in numbers + list(known.values()))
                if reached and len(known) == len(inputs) + len(program):
                    often += 1
                    found = worths(multiplied(program, inputs), tuple(base * number for number in inputs))
                    self.same(found, tuple((name, base * worth) for name, worth in known.items()))
        self.assertGreater(often, 300)


def without_products(chance, many):
    """So many programs of sums, differences, least, most and choose."""
    found = []
    while len(found) < many:
        program = some_program(chance)
        if not any(step[1] in '*/' for step in program.steps):
            found.append(program)
    return found


def turned_about(program):
    """The program whose numbers, ways and choices are turned about at 0."""
    lines = program.text.split('\n')[:1]
    lines += [f'input {name} {-high} {-low}' for name, low, high in program.inputs]
    for name, sign, parts, more, way in [turned_step(step) for step in program.steps]:
        lines.append(line_of(name, sign, parts, more, way))
    return Program('\n'.join(lines + ['tell ' + ' '.join(program.told)]))


def multiplied(program, inputs):
    """The program at these inputs, all numbers multiplied with the base."""
    base = program.grid.base
    lines = program.text.split('\n')[:1]
    lines += [f'input {row[0]} {number * base} {number * base}' for row, number in zip(program.inputs, inputs)]
    for name, sign, parts, more, way in program.steps:
        parts = [part if isinstance(part, str) else part * base for part in parts]
        lines.append(line_of(name, sign, parts, more, way))
    return Program('\n'.join(lines + ['tell ' + ' '.join(program.told)]))


def line_of(name, sign, parts, more, way):
    """The line of a step."""
    words = [str(part) for part in parts]
    if sign in ('least', 'most', 'choose'):
        return ' '.join([name, '=', sign] + words)
    line = f'{name} = {words[0]} {sign} {words[1]}'
    return line + (f' keep {more}' if more else '') + (f' way {way}' if way != 'near' else '')


class Edges(Case):
    """What the section names."""

    def program(self, *steps):
        return Program(HEAD + '\n'.join(steps))

    def test_over_ends_the_run(self):
        program = self.program('s = a * 990', 't = b + 1', 'u = 1 / b', 'tell t')
        self.same(run(program, (120, 0)), ('over', 's'))
        self.same(worths(program, (120, 0)), (('a', 120), ('b', 0)))
        self.same(run(program, (1, 0)), ('nought', 'u'))
        self.same(worths(program, (1, 0)), (('a', 1), ('b', 0), ('s', 99), ('t', 1)))
        self.same(exact_run(program, (120, 0)), ('nought', 'u'))
        self.same(exact_worths(program, (120, 0)), (('a', (120, 1)), ('b', (0, 1)), ('s', (11880, 1)), ('t', (1, 1))))
        self.same(run(program, (1, 3)), ('tells', (4,)))
        self.same(mixed_run(program, (120, 2), ('s',)), ('tells', ((3, 1),)))
        self.same(mixed_run(program, (120, 2), ('t', 'u')), ('over', 's'))
        self.refused_with(NoEnd, ('over', 's'), off_by, program, (120, 0))
        self.refused_with(NoEnd, ('nought', 'u'), off_by, program, (1, 0))

    def test_nought_in_just_one_of_both_runs(self):
        program = Program('grid 10 1 1 0\ninput a 1 9\ns = a / 2 way zero\nt = s - 0\nu = 9 / t\ntell u')
        self.same(run(program, (1,)), ('nought', 'u'))
        self.same(exact_run(program, (1,)), ('tells', ((18, 1),)))
        self.refused_with(NoEnd, ('nought', 'u'), off_by, program, (1,))
        program = Program('grid 10 1 1 0\ninput a 5 5\ns = a + 6 way up\nt = 5 + 6\nv = s - t\nu = 9 / v\ntell u')
        self.same(run(program, (5,)), ('tells', (1,)))
        self.same(exact_run(program, (5,)), ('nought', 'u'))
        self.same(mixed_run(program, (5,), ('s',)), ('tells', ((9, 1),)))
        self.same(mixed_run(program, (5,), ('s', 't')), ('nought', 'u'))
        self.refused_with(NoEnd, ('nought', 'u'), off_by, program, (5,))

    def test_places(self):
        program = self.program('s = a * b', 't = a / b', 'u = a / b keep 2 way up', 'tell s t u')
        self.same(run(program, (15, 3)), ('tells', (4, 50, 50)))
        self.same(exact_run(program, (15, 3)), ('tells', ((9, 2), (50, 1), (50, 1))))
        self.same(run(program, (-20, 3)), ('tells', (-6, -67, -66)))
        self.same(exact_run(program, (-20, -3)), ('tells', ((6, 1), (200, 3), (200, 3))))
        self.same(off_by(program, (-20, 3)), ((0, 1), (-1, 3), (2, 3)))

    def test_ways_and_more_at_a_tie(self):
        program = self.program('s = a + 990', 't = a + 990 way up', 'u = a + 990 way down', 'v = a + 990 keep 1',
                               'w = a - 2000 way zero', 'tell s t u v')
        self.same(run(program, (60, 0)), ('tells', (1000, 1100, 1000, 1050)))
        self.same(dict(worths(program, (60, 0)))['w'], -1900)

    def test_worths_with_more_figures_go_on(self):
        program = self.program('s = 990 + 5 keep 1', 't = s - 990', 'u = least s 990', 'v = most s 990', 'tell s t u v')
        self.same(run(program, (0, 0)), ('tells', (995, 5, 990, 995)))

    def test_choose_at_equal_worths(self):
        program = self.program('s = choose a b 1 2', 't = choose b a 1 2', 'u = least a b', 'v = most a b', 'tell s t u v')
        self.same(run(program, (3, 3)), ('tells', (2, 2, 3, 3)))
        self.same(run(program, (2, 3)), ('tells', (1, 2, 2, 3)))
        self.same(run(program, (3, 2)), ('tells', (2, 1, 2, 3)))

    def test_choose_that_rounding_turns(self):
        program = self.program('s = 990 + 4', 't = choose 990 s 1 2', 'tell t')
        self.same(run(program, (0, 0)), ('tells', (2,)))
        self.same(exact_run(program, (0, 0)), ('tells', ((1, 1),)))
        self.same(mixed_run(program, (0, 0), ('s',)), ('tells', ((1, 1),)))
        self.same(off_by(program, (0, 0)), ((1, 1),))

    def test_mixed_steps_round_fractions(self):
        program = self.program('s = a / 30', 't = s * 5', 'u = s * 5 keep 3 way up', 'tell t u')
        self.same(mixed_run(program, (10, 0), ('s',)), ('tells', ((2, 1), (2, 1))))
        self.same(mixed_run(program, (10, 0), ('t', 'u')), ('tells', ((3, 2), (3, 2))))
        self.same(mixed_worths(program, (10, 0), ('s', 't')),
                  (('a', (10, 1)), ('b', (0, 1)), ('s', (10, 3)), ('t', (5, 3)), ('u', (2, 1))))

    def test_results_again_and_inputs_told(self):
        self.same(run(self.program('tell b a b'), (7, -5)), ('tells', (-5, 7, -5)))
        self.same(exact_run(self.program('tell b a b'), (7, -5)), ('tells', ((-5, 1), (7, 1), (-5, 1))))
        self.same(worths(self.program('tell b'), (7, -5)), (('a', 7), ('b', -5)))

    def test_named_arguments(self):
        for call in (run, worths, exact_run, exact_worths, off_by):
            self.assertEqual(call(program=THERE, inputs=(1, 2)), call(THERE, (1, 2)))
        for call in (mixed_run, mixed_worths):
            self.assertEqual(call(program=THERE, inputs=(1, 2), lot=('s',)), call(THERE, (1, 2), ('s',)))


class Refused(Case):
    """Wrong inputs, wrong lots."""

    def test_inputs(self):
        for value in wrong_values() + [(1, 8), (8, 1), (-1, 1), (1, True), (1, None), [1, 2], (1, 2, 3), (1, '2'),
                                       ((1,), (2,)), 'ab', 12, (1, (2,)), (10 ** 50, 1)]:
            for call in (run, worths, exact_run, exact_worths, off_by):
                self.refused(BadInputs, value, call, THERE, value)
            for call in (mixed_run, mixed_worths):
                self.refused(BadInputs, value, call, THERE, value, 'no lot')

    def test_off_the_grid_and_out_of_range(self):
        program = Program(HEAD + 'tell a')
        for value in ((101, 0), (130, 0), (-100, 0), (120, 6), (119, 0)):
            self.refused(BadInputs, value, run, program, value)
        self.same(run(program, (110, 5)), ('tells', (110,)))

    def test_lots(self):
        program = Program(HEAD + 's = a + b\nt = least a s\nu = s - b\ntell u')
        for value in wrong_values() + ['s', ['s'], ('u', 's'), ('s', 's'), ('s', 't'), ('a',), ('x',), ('s', None),
                                       (('s',),), ('s', 1), (1, 's')]:
            if value == () and isinstance(value, tuple):
                continue
            for call in (mixed_run, mixed_worths):
                self.refused(BadLot, value, call, program, (1, 2), value)
        self.assertEqual(mixed_run(program, (1, 2), ('s', 'u')), ('tells', ((1, 1),)))


if __name__ == '__main__':
    unittest.main()
