"""Section 19: least programs."""

import random
import unittest
from itertools import product

from roundedsteps.errors import BadMaking, ManyInputs, ManyResults, NoEnd, OtherInputs
from roundedsteps.leastprogram import all_inputs, least_program, made, never_better, parting
from roundedsteps.programs import Program
from roundedsteps.rules import led, pruned
from roundedsteps.runs import run
from tests import slow
from tests.helping import Case, some_program, wrong_values
from tests.test_alike import some_pair

THERE = Program('grid 2 3 2 0\ninput a 0 7\ninput b 0 7\ns = a + b\nt = s - b\ntell t')
PLAIN = Program('grid 2 3 2 0\ninput a 0 3\ninput b 0 3\ns = a + b\nt = s - b\ntell t')
# 65 times 64 inputs are too many, 64 times 64 are not.
MANY = Program('grid 10 2 0 0\ninput a 0 64\ninput b 1 64\ntell a')
ALMOST = Program('grid 10 2 0 0\ninput a 1 64\ninput b 1 64\ntell a')
TOLD_TWICE = Program('grid 10 2 0 0\ninput a 0 64\ninput b 1 64\ntell a b')
SIGNS = ('*', '+', '-', 'least', 'most')


def answer(program, inputs):
    known, end = slow.walk(program, inputs)
    return None if end else tuple(known[name] for name in program.told)


def all_made(program, making):
    """The lines behind the inputs of all programs of a making, in their sequence."""
    signs, numbers, most = making
    names = [row[0] for row in program.inputs]
    found = [((0, place), [], name) for place, name in enumerate(names)]

    def steps(name, operands):
        parts = [(str(part), place) for place, part in enumerate(operands)]
        for (at, sign), (one, i), (other, j) in product(enumerate(signs), parts, parts):
            line = f'{name} = {one} {sign} {other}' if sign in '+-*' else f'{name} = {sign} {one} {other}'
            yield (at, i, j), line
    if most >= 1:
        found += [((1, key), [line], 'w1') for key, line in steps('w1', names + list(numbers))]
    if most >= 2:
        found += [((2, key, other), [line, also], 'w2') for key, line in steps('w1', names + list(numbers))
                  for other, also in steps('w2', names + list(numbers) + ['w1'])]
    return ['\n'.join(lines + [f'tell {told}']) for _, lines, told in sorted(found)]


def some_making(chance, grid, most):
    numbers = sorted(chance.sample([number for number in (-2, -1, 0, 1, 2, 3, 4, 8) if number in grid], chance.randint(0, 2)))
    return tuple(sorted(chance.sample(SIGNS, chance.randint(0, 3)))), tuple(numbers), most


class Against(Case):
    """Held against all inputs, and against all makings in their sequence."""

    def test_all_inputs_and_parting(self):
        chance = random.Random(111)
        found = {'none': 0, 'some': 0}
        for _ in range(250):
            one, other = some_pair(chance)
            rows = slow.inputs_of(one)
            self.same(all_inputs(one), tuple(sorted(rows)))
            unlike = [row for row in rows if answer(one, row) != answer(other, row)]
            self.same(parting(one, other), unlike[0] if unlike else None)
            self.same(parting(other, one), unlike[0] if unlike else None)
            found['some' if unlike else 'none'] += 1
        self.assertGreater(min(found.values()), 50)

    def test_made(self):
        chance = random.Random(112)
        for _ in range(40):
            program = some_program(chance, most_steps=0)
            making = some_making(chance, program.grid, chance.randint(0, 2))
            self.same(made(program, making), len(all_made(program, making)))

    def test_least_program(self):
        chance = random.Random(113)
        steps = []
        for _ in range(120):
            program = some_program(chance, most_steps=3, most_numbers=4)
            program = Program('\n'.join(program.text.split('\n')[:-1] + [f'tell {program.names[-1]}']))
            making = some_making(chance, program.grid, chance.choice([0, 1, 1, 2]))
            if made(program, making) > 700:
                making = (making[0][:1], making[1][:1], making[2])
            head = '\n'.join(program.text.split('\n')[:1 + len(program.inputs)]) + '\n'
            if chance.random() < 0.4:
                program = Program(head + chance.choice(all_made(program, making)))
            rows = slow.inputs_of(program)
            wanted = [answer(program, row) for row in rows]
            first = None
            for text in all_made(program, making):
                if all(answer(Program(head + text), row) == told for row, told in zip(rows, wanted)):
                    first = head + text
                    break
            found = least_program(program, making)
            self.assertEqual(None if found is None else found.text, first)
            steps.append(None if found is None else len(found))
        self.assertEqual(set(steps), {None, 0, 1, 2})

    def test_never_better(self):
        chance = random.Random(114)
        words = {'never': 0, 'better': 0, 'ends': 0}
        for _ in range(500):
            one, other = some_pair(chance)
            one, other = [Program('\n'.join(part.text.split('\n')[:-1] + [f'tell {part.told[0]}'])) for part in (one, other)]
            free = slow.rounding_steps(one)
            end, better = None, None
            for row in slow.inputs_of(one):
                walks = [slow.walk(one, row), slow.walk(other, row), slow.walk(one, row, free)]
                ends = [walk[1] for walk in walks if walk[1]]
                if ends:
                    end = end or (row, ends[0])
                    continue
                worth, also, exact = [walk[0][part.told[0]] for walk, part in zip(walks, (one, other, one))]
                if abs(worth - exact) < abs(also - exact) and better is None:
                    better = row
            if end:
                words['ends'] += 1
                self.refused_with(NoEnd, end, never_better, one, other)
            else:
                told = ('never',) if better is None else ('better', better)
                words[told[0]] += 1
                self.same(never_better(one, other), told)
        self.assertGreater(min(words.values()), 10, words)


class Edges(Case):
    """What the section names."""

    def test_the_example(self):
        self.same(parting(THERE, led(THERE, 'turn', 's')), None)
        self.same(parting(THERE, led(THERE, 'back', 't')), (2, 7))
        self.same(parting(PLAIN, pruned(led(PLAIN, 'back', 't'))), None)
        self.same(least_program(PLAIN, ((), (), 0)).text, 'grid 2 3 2 0\ninput a 0 3\ninput b 0 3\ntell a')
        self.same(least_program(THERE, ((), (), 0)), None)
        one_step = Program('grid 2 3 2 0\ninput a 0 3\ns = a + a\ntell s')
        self.same([least_program(one_step, (('+',), (), 0)), least_program(one_step, ((), (), 2))], [None, None])
        two_steps = Program('grid 2 3 2 0\ninput a 0 3\ns = a + a\nt = s - 5\ntell t')
        self.same(least_program(two_steps, (('+', '-'), (5,), 1)), None)
        self.same(len(least_program(two_steps, (('+', '-'), (5,), 2))), 2)
        self.same([made(PLAIN, making) for making in ((('+', '-'), (1,), 1), ((), (), 2), (('+',), (), 2), (('+',), (), 0))],
                  [20, 2, 2 + 4 + 36, 2])

    def test_unlike_counts_of_results(self):
        other = Program('grid 2 3 2 0\ninput a 0 7\ninput b 0 7\ntell a a')
        self.same(parting(THERE, other), (0, 0))
        never = Program('grid 2 3 2 0\ninput a 0 7\ninput b 0 7\ns = a / 0\ntell a a')
        over = Program('grid 2 3 2 0\ninput a 0 7\ninput b 0 7\ns = 28 + 28\ntell a')
        self.same(parting(never, over), None)
        self.same(parting(never, THERE), (0, 0))

    def test_a_program_that_never_tells(self):
        program = Program('grid 2 3 2 0\ninput a 1 3\ns = a / 0\ntell s')
        self.same(least_program(program, ((), (), 2)), None)
        self.same(least_program(program, (('+',), (28,), 1)).text.split('\n')[2:], ['w1 = 28 + 28', 'tell w1'])
        self.same(least_program(program, (('*', '+'), (16,), 1)).text.split('\n')[2:], ['w1 = 16 * 16', 'tell w1'])

    def test_second_steps(self):
        program = Program('grid 2 3 2 0\ninput a 0 3\ninput b 0 3\ns = a + b\nt = most s 2\ntell t')
        told = least_program(program, (('+', 'most'), (2,), 2)).text.split('\n')[3:]
        self.same(told, ['w1 = a + b', 'w2 = most 2 w1', 'tell w2'])

    def test_limits(self):
        self.same(len(all_inputs(ALMOST)), 4096)
        self.same(parting(ALMOST, ALMOST), None)
        self.same(least_program(ALMOST, ((), (), 0)).told, ('a',))
        self.same(never_better(ALMOST, ALMOST), ('never',))
        self.same(made(MANY, ((), (), 0)), 2)

    def test_many_makings(self):
        program = Program('grid 10 2 0 0\ninput a 1 16\ninput b 1 16\ninput c 1 16\ns = a / 7\ntell s')
        self.same(least_program(program, (('*', '+', '-'), (2, 3), 2)), None)
        self.same(made(program, (('*', '+', '-'), (2, 3), 2)), 3 + 75 + 75 * 108)
        program = Program('grid 10 2 0 0\ninput a 1 16\ninput b 1 16\ninput c 1 16\ns = c - 60\nt = s - 9\ntell t')
        self.same(least_program(program, (('-', 'least', 'most'), (9, 60), 2)).text.split('\n')[4:],
                  ['w1 = c - 9', 'w2 = w1 - 60', 'tell w2'])

    def test_never_better(self):
        head = 'grid 2 3 4 0\ninput a 8 14\n'
        near, down, up = [Program(head + f's = a + 7{way}\ntell s') for way in ('', ' way down', ' way up')]
        # 15 becomes 16 or 14, 17 becomes 16; 19 becomes 20 or 16.
        self.same(never_better(near, down), ('better', (12,)))
        self.same(never_better(down, near), ('never',))
        self.same([run(part, (10,))[1][0] for part in (near, down, up)], [16, 16, 20])
        self.same(never_better(near, up), ('better', (10,)))
        self.same(never_better(up, near), ('never',))

    def test_exact_worths_of_the_first_one(self):
        head = 'grid 2 3 4 0\ninput a 8 14\n'
        one, other = Program(head + 's = a + 1 way down\ntell s'), Program(head + 's = a + 2\ntell s')
        self.same(never_better(one, other), ('never',))
        self.same(never_better(other, one), ('better', (8,)))


class Refused(Case):
    """Wrong arguments, the first error first."""

    def test_other_inputs(self):
        for text in ('grid 2 3 3 0\ninput a 0 7\ninput b 0 7\ntell a b', 'grid 2 3 2 0\ninput a 0 7\ntell a',
                     'grid 2 3 2 0\ninput a 0 7\ninput c 0 7\ntell a', 'grid 2 3 2 0\ninput a 0 7\ninput b 0 8\ntell a',
                     'grid 2 3 2 0\ninput b 0 7\ninput a 0 7\ntell a'):
            other = Program(text)
            self.refused(OtherInputs, other, parting, THERE, other)
            self.refused(OtherInputs, other, never_better, THERE, other)
        self.refused(OtherInputs, THERE, parting, MANY, THERE)
        self.refused(OtherInputs, THERE, never_better, TOLD_TWICE, THERE)

    def test_many_inputs(self):
        self.refused_with(ManyInputs, 4160, all_inputs, MANY)
        self.refused_with(ManyInputs, 4160, parting, MANY, MANY)
        self.refused_with(ManyInputs, 4160, least_program, MANY, ((), (), 0))
        self.refused_with(ManyInputs, 4160, never_better, TOLD_TWICE, TOLD_TWICE)
        one_more = Program('grid 10 3 0 0\ninput a 1 17\ninput b 1 241\ntell a')
        self.refused_with(ManyInputs, 4097, all_inputs, one_more)
        great = Program(f'grid 10 30 60 0\ninput a 0 {10 ** 89}\ntell a')
        self.refused_with(ManyInputs, great.grid.rank(10 ** 89) + 1, all_inputs, great)

    def test_many_results(self):
        self.refused_with(ManyResults, 2, least_program, TOLD_TWICE, None)
        two, three = [Program('grid 2 3 2 0\ninput a 0 7\ninput b 0 7\ntell ' + told) for told in ('a a', 'a b a')]
        self.refused_with(ManyResults, 2, least_program, two, ((), (), 3))
        self.refused_with(ManyResults, 3, never_better, three, two)
        self.refused_with(ManyResults, 2, never_better, THERE, two)
        self.refused_with(ManyResults, 3, never_better, three, THERE)

    def test_makings(self):
        wrong = [((), ()), ((), (), 0, 0), [(), (), 0], ((), (), 3), ((), (), -1), ((), (), True), ((), (), None), ((), (), '1'),
                 (('+', '*'), (), 1), (('+', '+'), (), 1), (('/',), (), 1), (('choose',), (), 1), (('*', '+', '-', 'least'), (), 1),
                 (['+'], (), 1), ('+', (), 1), ((None,), (), 1), ((['+'],), (), 1), ((), (1, 0), 1), ((), (1, 1), 1),
                 ((), (0, 1, 2), 1), ((), [1], 1), ((), (9,), 1), ((), (True,), 1), ((), ('a',), 1), ((), (None,), 1),
                 ((), (32,), 1), (('least', '-'), (), 1), ((('+',),), (), 0), ((), 1, 0), ('', (), 0), ((), (0, True), 0)]
        for value in wrong_values() + wrong:
            self.refused(BadMaking, value, made, THERE, value)
            self.refused(BadMaking, value, least_program, THERE, value)
        for value in wrong_values():
            self.refused(BadMaking, value, least_program, MANY, value)

    def test_ends(self):
        head = 'grid 2 3 4 0\ninput a 0 7\n'
        tells = Program(head + 's = a + 5\ntell s')
        nought = Program(head + 's = 4 / a\ntell s')
        over = Program(head + 's = a - 7\nt = 112 - s\nu = t + 8\ntell u')
        self.refused_with(NoEnd, ((0,), ('nought', 's')), never_better, nought, tells)
        self.refused_with(NoEnd, ((0,), ('nought', 's')), never_better, tells, nought)
        self.refused_with(NoEnd, ((0,), run(over, (0,))), never_better, over, nought)
        self.refused_with(NoEnd, ((0,), ('nought', 's')), never_better, nought, over)
        # 7 + 2 is 9, so 8: less 8 nought, but exactly 1; at 6 it is nought in both runs.
        late = Program(head + 's = a + 2\nt = s - 8\nu = 8 / t\ntell u')
        self.refused_with(NoEnd, ((6,), ('nought', 'u')), never_better, late, tells)
        exactly = Program(head + 's = a + 2 way up\nt = s - 9\nu = 8 / t\ntell u'.replace('9', '8 keep 1'))
        self.refused_with(NoEnd, ((6,), ('nought', 'u')), never_better, exactly, tells)
        # The rounded run goes on, the exact one does not.
        hidden = Program(head + 's = a + 2 way up\nk = 5 + 4\nt = s - k\nv = t + t\nu = 8 / v\ntell s')
        told = [run(hidden, (number,))[0] for number in range(8)]
        self.assertEqual(told, ['tells'] * 6 + ['nought', 'tells'])
        self.refused_with(NoEnd, ((6,), ('nought', 'u')), never_better, hidden, tells)
        only = Program('grid 2 3 4 0\ninput a 7 7\ns = a + 2 way up\nk = 5 + 4\nt = s - k\nu = 8 / t\ntell u')
        self.same(run(only, (7,))[0], 'tells')
        self.refused_with(NoEnd, ((7,), ('nought', 'u')), never_better, only, Program('grid 2 3 4 0\ninput a 7 7\ntell a'))

    def test_better_and_an_end_behind_it(self):
        head = 'grid 2 3 4 0\ninput a 8 14\n'
        near = Program(head + 'd = a - 14\nq = 8 / d\ns = a + 8\ntell s')
        up = Program(head + 's = a + 8 way up\ntell s')
        self.refused_with(NoEnd, ((14,), ('nought', 'q')), never_better, near, up)
        self.refused_with(NoEnd, ((14,), ('nought', 'q')), never_better, up, near)

    def test_named_arguments(self):
        self.same(len(all_inputs(program=PLAIN)), 16)
        self.same(parting(one=PLAIN, other=PLAIN), None)
        self.same(made(program=PLAIN, making=((), (), 0)), 2)
        self.same(least_program(program=PLAIN, making=((), (), 0)).told, ('a',))
        self.same(never_better(one=PLAIN, other=PLAIN), ('never',))


if __name__ == '__main__':
    unittest.main()
