"""Section 7: programs, and section 3, (e): they are read back from their texts."""

import random
import unittest

from roundedsteps.errors import BadBox, BadChoices, BadProgram, OtherInputs, TooLong
from roundedsteps.grids import Grid
from roundedsteps.programs import Program, joined
from roundedsteps.runs import run
from tests import slow
from tests.helping import SMALL_TEXT, Case, some_program, wrong_values

HEAD = 'grid 10 2 2 1\ninput a -99 120\ninput b 0 0'


def with_steps(*steps):
    """A program of these steps that tells a."""
    return Program('\n'.join([HEAD, *steps, 'tell a']))


class Reading(Case):
    """What is read of texts that are right."""

    def test_properties(self):
        program = Program(SMALL_TEXT)
        self.same(program.text, SMALL_TEXT)
        self.assertEqual(program.grid, Grid(2, 3, 2, 0))
        self.same(program.inputs, (('a', 0, 7), ('b', 0, 7)))
        self.same(program.steps, (('s', '+', ('a', 'b'), 0, 'near'), ('t', '-', ('s', 'b'), 0, 'near')))
        self.same(program.told, ('t',))
        self.assertEqual(len(program), 2)

    def test_all_forms_of_steps(self):
        program = with_steps('s = a + b', 't1 = -99 - 120', 'u22 = a * s keep 3', 'v333 = t1 / 990 way zero',
                             'w = 0 - b keep 1 way down', 'x = least a 5', 'y = most x 0', 'z = choose a 0 y -1',
                             'abcdef000 = z + z way up', 'up = b - b keep 2')
        self.same(program.steps, (
            ('s', '+', ('a', 'b'), 0, 'near'), ('t1', '-', (-99, 120), 0, 'near'), ('u22', '*', ('a', 's'), 3, 'near'),
            ('v333', '/', ('t1', 990), 0, 'zero'), ('w', '-', (0, 'b'), 1, 'down'), ('x', 'least', ('a', 5), 0, 'near'),
            ('y', 'most', ('x', 0), 0, 'near'), ('z', 'choose', ('a', 0, 'y', -1), 0, 'near'),
            ('abcdef000', '+', ('z', 'z'), 0, 'up'), ('up', '-', ('b', 'b'), 2, 'near')))

    def test_no_step(self):
        program = Program('grid 2 1 0 0\ninput a 0 1\ntell a a a a')
        self.same([program.steps, program.told, len(program)], [(), ('a', 'a', 'a', 'a'), 0])

    def test_three_inputs_and_twenty_steps(self):
        lines = ['grid 10 30 60 30', f'input abcdef {-10 ** 89} {10 ** 89}', 'input b 0 0', 'input c -5 7']
        steps = [f's{number} = abcdef * b' for number in range(20)]
        program = Program('\n'.join(lines + steps + ['tell s0 s19 abcdef c']))
        self.assertEqual([len(program), len(program.inputs)], [20, 3])
        self.same(program.inputs[0], ('abcdef', -10 ** 89, 10 ** 89))
        self.refused_with(BadProgram, 25, Program, '\n'.join(lines + steps + ['s20 = b + b', 'tell c']))
        self.refused_with(BadProgram, 5, Program, '\n'.join(lines + ['input d 0 0', 'tell c']))

    def test_it_is_read_back(self):
        chance = random.Random(7)
        for _ in range(200):
            program = some_program(chance)
            again = Program(program.text)
            self.assertEqual(again, program)
            self.same([again.text, again.inputs, again.steps, again.told],
                      [program.text, program.inputs, program.steps, program.told])
            self.assertEqual(again.grid, program.grid)
            same = program.with_more(())
            self.same(same.text, program.text)

    def test_names_called_otherwise(self):
        chance = random.Random(8)
        for _ in range(60):
            program = some_program(chance)
            names = [row[0] for row in program.inputs] + [step[0] for step in program.steps]
            words = {name: 'x' + name if name.isalpha() else 'z' + name for name in names}
            lines = [' '.join(words.get(word, word) for word in line.split(' ')) for line in program.text.split('\n')]
            other = Program('\n'.join(lines))
            for inputs in slow.inputs_of(program)[:20]:
                told = run(program, inputs)
                told = told if told[0] == 'tells' else (told[0], words[told[1]])
                self.assertEqual(run(other, inputs), told)

    def test_in(self):
        program = Program(SMALL_TEXT)
        self.assertEqual([name in program for name in ('a', 'b', 's', 't', 'c', 'tell', '')],
                         [True] * 4 + [False] * 3)
        for value in wrong_values() + [['a'], ('a',), 0]:
            self.assertIs(value in program, False)

    def test_equal(self):
        program = Program(SMALL_TEXT)
        self.assertTrue(program == Program(text=SMALL_TEXT))
        self.assertFalse(program != Program(SMALL_TEXT))
        self.assertFalse(program == Program(SMALL_TEXT.replace('tell t', 'tell s')))
        for value in [value for value in wrong_values() if not isinstance(value, Program)] + [SMALL_TEXT]:
            self.assertFalse(program == value)
            self.assertTrue(program != value)


class Refusing(Case):
    """The first line that cannot stand there."""

    def bad(self, number, text):
        self.refused_with(BadProgram, number, Program, text)

    def bad_step(self, *lines):
        """The last one of these steps cannot stand there, whatever comes behind it."""
        text = '\n'.join([HEAD, *lines])
        self.bad(3 + len(lines), text)
        self.bad(3 + len(lines), text + '\ntell a')

    def test_no_strings(self):
        for value in wrong_values() + [b'grid', 0, 5]:
            if not isinstance(value, str):
                self.bad(0, value)

    def test_lines_missing(self):
        self.bad(1, '')
        self.bad(2, 'grid 2 3 2 0')
        self.bad(3, 'grid 2 3 2 0\ninput a 0 7')
        self.bad(4, 'grid 2 3 2 0\ninput a 0 7\ns = a + a')
        self.bad(2, 'grid 2 3 2 0\ntell a')
        self.bad(2, 'grid 2 3 2 0\ns = 1 + 1\ntell s')
        self.bad(1, 'input a 0 7\ntell a')

    def test_line_feeds(self):
        self.bad(1, '\n' + SMALL_TEXT)
        self.bad(7, SMALL_TEXT + '\n')
        self.bad(7, SMALL_TEXT + '\n\n')
        self.bad(2, 'grid 2 3 2 0\n')
        self.bad(2, SMALL_TEXT.replace('0\ninput a', '0\n\ninput a'))

    def test_lines_out_of_sequence(self):
        lines = SMALL_TEXT.split('\n')
        self.bad(1, '\n'.join([lines[1], lines[0]] + lines[2:]))
        self.bad(4, '\n'.join([lines[0], lines[1], lines[3].replace('b', '1'), lines[2]] + lines[4:]))
        self.bad(4, '\n'.join(lines[:3] + [lines[4], lines[3], lines[5]]))
        self.bad(6, '\n'.join(lines[:4] + [lines[5], lines[4]]).replace('tell t', 'tell s'))
        self.bad(7, '\n'.join(lines + [lines[5]]))
        self.bad(2, '\n'.join([lines[0]] + lines))

    def test_blanks(self):
        lines = SMALL_TEXT.split('\n')
        for place in range(len(lines)):
            for wrong in (' ' + lines[place], lines[place] + ' ', lines[place].replace(' ', '  ', 1), ' '):
                self.bad(place + 1, '\n'.join(lines[:place] + [wrong] + lines[place + 1:]))

    def test_grids(self):
        for line in ('grid', 'grid 2 3 2', 'grid 2 3 2 0 0', 'grid 1 3 2 0', 'grid 11 3 2 0', 'grid 2 0 2 0',
                     'grid 2 31 2 0', 'grid 2 3 -1 0', 'grid 2 3 61 0', 'grid 2 3 2 31', 'grid 2 3 2 -1', 'Grid 2 3 2 0',
                     'grid 02 3 2 0', 'grid +2 3 2 0', 'grid 2 3 2 -0', 'grid a 3 2 0', 'grid 2 3 2 0.', 'grid 2 3 2 1_0'):
            self.bad(1, SMALL_TEXT.replace('grid 2 3 2 0', line))

    def test_inputs(self):
        for line in ('input', 'input a', 'input a 0', 'input a 0 7 7', 'input a 7 0', 'input a 0 9', 'input a 9 9',
                     'input a -9 0', 'input A 0 7', 'input a1 0 7', 'input abcdefg 0 7', 'input  0 7', 'input a 00 7',
                     'input a 0 +7', 'input a -0 7', 'input a x 7', 'input grid 0 7', 'input input 0 7',
                     'input least 0 7', 'input keep 0 7', 'input way 0 7', 'input tell 0 7', 'input most 0 7',
                     'input choose 0 7', 'a 0 7', 'inputs a 0 7', 'Input a 0 7', ' a 0 7', 'a = 0 7', 'input a_ 0 7', 'input a 0 29', 'input a 0 32'):
            self.bad(2, SMALL_TEXT.replace('input a 0 7', line))
        self.bad(3, SMALL_TEXT.replace('input b', 'input a'))
        self.assertEqual(Program(SMALL_TEXT.replace('a 0 7', 'a -28 -28')).inputs[0], ('a', -28, -28))

    def test_names_of_steps(self):
        for name in ('', 'S', '1', '1s', 's1s', 'abcdefg', 's1234', 's_', 'grid', 'input', 'tell', 'least', 'most',
                     'choose', 'keep', 'way', 'a', 'b', 's-', 's.1'):
            self.bad_step(f'{name} = a + b')
        self.bad_step('s = a + b', 's = a + b')
        self.assertEqual(with_steps('s000 = a + b', 's00 = a + b', 'grid1 = a + b', 's0 = a + b').steps[2][0], 'grid1')

    def test_operands(self):
        for word in ('c', 's', 'A', '+1', '01', '-0', '101', '9901', '10000', '', '1.0', '--1', '1_0', '9' * 3000,
                     '9' * 5990, 'keep', '-', 'a,'):
            for line in ('s = {} + b', 's = b + {}', 's = least {} b', 's = least b {}', 's = choose {} a a a',
                         's = choose a {} a a', 's = choose a a {} a', 's = choose a a a {}', 's = b / {} way up'):
                self.bad_step(line.format(word)[:5900])

    def test_forms_of_steps(self):
        for line in ('s', 's =', 's = a', 's = a +', 's a + b', 's = a b', 's = a + b b', 's = + a b', 's = a % b',
                     's = a ** b', 's == a + b', 's = least a', 's = least a b b', 's = most a', 's = choose a b a',
                     's = choose a b a b a', 's = least a b keep 1', 's = most a b way up', 's = choose a b a b way up',
                     's = max a b', 's := a + b', 's = least + b', 's = a least b', 'grid 2 3 2 0'):
            self.bad_step(line)
        self.bad_step('s = a + b', 'input c 0 1')
        self.bad(4, HEAD + '\ntell = a + b')

    def test_keep_and_way(self):
        for behind in ('keep', 'keep 0', 'keep 4', 'keep -1', 'keep 01', 'keep a', 'keep 1 1', 'keep 1 keep 1', 'way',
                       'way near', 'way Up', 'way up up', 'way up keep 1', 'way up way up', 'keep way up', 'keep 1 way',
                       'up', '1', 'keep 1 up', 'way 1', 'way  up'):
            self.bad_step(f's = a + b {behind}')

    def test_more_figures_than_thirty(self):
        text = 'grid 2 {} 0 0\ninput a 0 1\ns = a + a keep {}\ntell s'
        self.assertEqual(Program(text.format(27, 3)).steps[0][3], 3)
        self.assertEqual(Program(text.format(29, 1)).steps[0][3], 1)
        for told in ((28, 3), (29, 2), (30, 1)):
            self.bad(3, text.format(*told))

    def test_tell(self):
        for line in ('tell', 'tell ', 'tell c', 'tell a a a a a', 'tell 1', 'tell a 1', 'tell a  b', 'Tell a', 'tell a,b'):
            self.bad(4, HEAD + '\n' + line)
        self.bad(5, HEAD + '\ntell a\ntell a')
        self.bad(5, HEAD + '\ntell a\ns = a + b')


class WithMore(Case):
    """Other figures more."""

    def test_with_more(self):
        program = with_steps('s = a + b keep 2', 't = s - b way up', 'u = least s t')
        lines = program.with_more((('t', 3), ('s', 0))).text.split('\n')
        self.assertEqual(lines[3:6], ['s = a + b', 't = s - b keep 3 way up', 'u = least s t'])
        self.assertEqual(program.with_more(choices=(('t', 1),)).steps[0][3], 2)
        self.assertEqual(program.with_more(()), program)
        self.assertEqual(program.steps[0][3], 2)

    def test_refused(self):
        program = with_steps('s = a + b', 't = s - b', 'u = least s t')
        for value in wrong_values() + [('s', 1), [('s', 1)], (['s', 1],), (('s', 1), ('s', 1)), (('s', 1), ('s', 2)),
                                       (('u', 1),), (('a', 1),), (('c', 1),), (('s', 4),), (('s', -1),), (('s', True),),
                                       (('s', '1'),), (('s', 1, 1),), (('s',),), ((1, 's'),), ((['s'], 1),), 's']:
            if value != () or not isinstance(value, tuple):
                self.refused(BadChoices, value, program.with_more, value)

    def test_thirty_figures(self):
        program = Program('grid 2 28 0 0\ninput a 0 1\ns = a + a\ntell s')
        self.assertEqual(program.with_more((('s', 2),)).steps[0][3], 2)
        choices = (('s', 3),)
        self.refused(BadChoices, choices, program.with_more, choices)
        program = Program('grid 2 30 0 0\ninput a 0 1\ns = a + a\ntell s')
        self.assertEqual(program.with_more((('s', 0),)), program)


class Narrowed(Case):
    """Other ranges."""

    def test_narrowed(self):
        program = with_steps('s = a + b')
        self.assertEqual(program.narrowed(((-5, 110), (0, 0))).text.split('\n'),
                         ['grid 10 2 2 1', 'input a -5 110', 'input b 0 0', 's = a + b', 'tell a'])
        self.assertEqual(program.narrowed(box=((-99, 120), (0, 0))), program)

    def test_refused(self):
        program = with_steps('s = a + b')
        for value in wrong_values() + [((0, 1),), ((0, 1), (0, 0), (0, 0)), ((1, 0), (0, 0)), ((0, 130), (0, 0)),
                                       ((-100, 0), (0, 0)), ((0, 101), (0, 0)), ((101, 110), (0, 0)), ((0, 1), (0, 1)),
                                       [(0, 1), (0, 0)], ([0, 1], (0, 0)), ((0, True), (0, 0)), ((0, 1), (False, 0)),
                                       ((0, 1), (0,)), ((0, 1), (0, 0, 0)), ((0, 1), None), ('ab', 'ab')]:
            self.refused(BadBox, value, program.narrowed, value)


class Joined(Case):
    """Two programs in one."""

    def test_joined(self):
        one = with_steps('s = a + 5 keep 1', 'q1 = choose s b a -1')
        other = with_steps('p1 = a / a way up', 's = least p1 0', 'q1 = s * s')
        self.assertEqual(joined(one, other).text, '\n'.join([
            HEAD, 'p1 = a + 5 keep 1', 'p2 = choose p1 b a -1', 'q1 = a / a way up', 'q2 = least q1 0', 'q3 = q2 * q2',
            'tell a a']))
        self.assertEqual(joined(one=one, other=one).steps[2], ('q1', '+', ('a', 5), 1, 'near'))

    def test_it_tells_what_both_tell(self):
        chance = random.Random(3)
        for _ in range(80):
            one = some_program(chance, most_steps=4)
            other = Program('\n'.join(one.text.split('\n')[:len(one.inputs) + 1] + ['x = a - 1', 'tell x a']))
            if len(one.told) > 2:
                continue
            both = joined(one, other)
            for inputs in slow.inputs_of(one)[:30]:
                ends = [run(one, inputs), run(other, inputs)]
                told = run(both, inputs)
                if ends[0][0] == ends[1][0] == 'tells':
                    self.assertEqual(told, ('tells', ends[0][1] + ends[1][1]))
                else:
                    self.assertNotEqual(told[0], 'tells')

    def test_other_inputs(self):
        one = Program(SMALL_TEXT)
        for text in (SMALL_TEXT.replace('grid 2 3 2 0', 'grid 2 3 3 0'), SMALL_TEXT.replace('grid 2 3 2 0', 'grid 2 3 2 1'),
                     SMALL_TEXT.replace('a 0 7', 'a 0 6'), SMALL_TEXT.replace('a 0 7', 'a -1 7'),
                     'grid 2 3 2 0\ninput a 0 7\ntell a', 'grid 2 3 2 0\ninput b 0 7\ninput a 0 7\ntell a',
                     SMALL_TEXT.replace('tell t', 'tell t t t t').replace('a 0 7', 'a 1 7')):
            other = Program(text)
            self.refused(OtherInputs, other, joined, one, other)

    def test_too_long(self):
        head = 'grid 2 3 2 0\ninput a 0 7\n'
        ten = Program(head + ''.join(f's{at} = a + a\n' for at in range(10)) + 'tell a a')
        eleven = Program(head + ''.join(f's{at} = a + a\n' for at in range(11)) + 'tell a a a')
        self.assertEqual(len(joined(ten, ten)), 20)
        self.refused_with(TooLong, 21, joined, ten, eleven)
        self.refused_with(TooLong, 22, joined, eleven, eleven)
        three = Program(head + 'tell a a a')
        self.refused_with(TooLong, 5, joined, ten, three)
        self.refused_with(TooLong, 6, joined, three, three)
        self.assertEqual(joined(three, Program(head + 'tell a')).told, ('a',) * 4)


if __name__ == '__main__':
    unittest.main()
