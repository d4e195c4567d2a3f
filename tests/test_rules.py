"""Section 18: formulas led over."""

import random
import unittest

from roundedsteps.alike import same_for_all
from roundedsteps.errors import BadRow, BadRule, NoStep, NotLed, TooLong
from roundedsteps.programs import Program
from roundedsteps.rules import kept, led, led_by, leads, pruned, rule_names, shows_kept
from roundedsteps.runs import exact_run, run
from tests import slow
from tests.helping import Case, some_number, some_program, variants, wrong_values
from tests.test_alike import Slow

NAMES = ('turn', 'group', 'degroup', 'spread', 'gather', 'alone', 'back', 'minus', 'pick', 'unpick')
THERE = Program('grid 2 3 2 0\ninput a 0 7\ninput b 0 7\ns = a + b\nt = s - b\ntell t')
HEAD = 'grid 2 3 4 0\ninput a 0 7\ninput b 0 7\ninput c 0 7\n'


def some_formula(chance, steps=5):
    """A program whose steps often have the forms of rules."""
    names = ['a', 'b', 'c'][:chance.choice([1, 2, 2])]
    grid = Program(HEAD + 'tell a').grid
    lines = [f'input {name} ' + chance.choice(['0 3', '1 4', '-2 4', '5 10', '6 12']) for name in names]
    steps_ahead = []
    for number in range(chance.randint(1, steps)):
        parts = [chance.choice(names) if chance.random() < 0.9 else str(some_number(chance, grid)) for _ in range(2)]
        if chance.random() < 0.5:
            parts[chance.randint(0, 1)] = names[-1]
        if chance.random() < 0.15:
            parts[1] = '0'
        sign = chance.choice(['+', '+', '+', '-', '-', '*', '*', 'least', 'choose', 'most'])
        name = chance.choice([f's{number}', f'n{number + 1}'])
        if steps_ahead and chance.random() < 0.3:
            sign = chance.choice('+-')
            parts = [steps_ahead[-1][0], steps_ahead[0][0] if sign == '+' else steps_ahead[-1][3]]
        if sign == 'choose':
            line = f'choose {parts[0]} {parts[1]} {parts[0]} {chance.choice([parts[1], parts[1], parts[0], "a"])}'
        elif sign in ('least', 'most'):
            line = f'{sign} {parts[0]} {parts[1]}'
        else:
            line = f'{parts[0]} {sign} {parts[1]}' + chance.choice(['', '', '', ' keep 1', ' way up', ' keep 2 way down'])
        lines.append(f'{name} = {line}')
        names.append(name)
        if sign in '+*':
            steps_ahead.append((name, parts[0], sign, parts[1]))
    told = ' '.join(chance.choice(names) for _ in range(chance.randint(1, 2)))
    return Program('\n'.join(['grid 2 3 4 0'] + lines + ['tell ' + told]))


def slow_led(program, rule, name):
    """The text of the led program by the table's words, None if the step has not this form."""
    steps = {step[0]: step for step in program.steps}
    _, sign, operands, more, way = steps[name]
    fresh = [f'n{number}' for number in range(1, 40) if f'n{number}' not in program]
    n, m = fresh[:2]
    one, other = operands[:2]

    def inner(part, wanted):
        return steps[part][2] if part in steps and steps[part][1] == wanted else None
    p, q = inner(one, '+'), inner(other, '+')
    f, g = inner(one, '*'), inner(other, '*')
    ahead, goes, became = [], None, None
    if rule == 'turn' and sign in '+*':
        became = (sign, (other, one))
    elif rule == 'group' and sign == '+' and p:
        ahead, became = [(n, '+', (p[1], other))], ('+', (p[0], n))
    elif rule == 'degroup' and sign == '+' and q:
        ahead, became = [(n, '+', (one, q[0]))], ('+', (n, q[1]))
    elif rule == 'spread' and sign == '*' and q:
        ahead, became = [(n, '*', (one, q[0])), (m, '*', (one, q[1]))], ('+', (n, m))
    elif rule == 'gather' and sign == '+' and f and g and f[0] == g[0]:
        ahead, became = [(n, '+', (f[1], g[1]))], ('*', (f[0], n))
    elif rule == 'alone' and sign in '+-' and other == 0:
        goes = one
    elif rule == 'back' and sign == '-' and p and p[1] == other:
        goes = p[0]
    elif rule == 'minus' and sign == '-':
        ahead, became = [(n, '-', (0, other))], ('+', (one, n))
    elif rule == 'pick' and sign == 'least':
        became = ('choose', (one, other, one, other))
    elif rule == 'unpick' and sign == 'choose' and operands[2:] == (one, other):
        became = ('least', (one, other))
    if goes is None and became is None or name in program.told and isinstance(goes, int):
        return None
    lines = program.text.split('\n')[:1 + len(program.inputs)]
    for step in program.steps:
        if step[0] == name:
            lines += [line_of((*row, 0, 'near')) for row in ahead]
            if became:
                lines.append(line_of((name, *became, more, way)))
        else:
            lines.append(line_of((step[0], step[1], tuple(goes if goes is not None and part == name else part
                                                          for part in step[2]), *step[3:])))
    told = [goes if goes is not None and part == name else part for part in program.told]
    return '\n'.join(lines + ['tell ' + ' '.join(told)]) if len(lines) - len(program.inputs) <= 21 else None


def line_of(step):
    name, sign, parts, more, way = step
    words = [str(part) for part in parts]
    if sign in ('least', 'most', 'choose'):
        return f'{name} = {sign} ' + ' '.join(words)
    return f'{name} = {words[0]} {sign} {words[1]}' + f' keep {more}' * (more > 0) + f' way {way}' * (way != 'near')


class Against(Case):
    """Programs led by all rules at all steps, held against the table's words, and against exact runs."""

    def test_all_rules(self):
        chance = random.Random(101)
        often = dict.fromkeys(NAMES, 0)
        for _ in range(400):
            program = some_formula(chance)
            found = []
            for rule in NAMES:
                for step in program.steps:
                    wanted = slow_led(program, rule, step[0])
                    if wanted is None:
                        self.refused_with(NotLed, (rule, step[0]), led, program, rule, step[0])
                        continue
                    found.append((rule, step[0]))
                    often[rule] += 1
                    other = led(program, rule, step[0])
                    self.assertEqual(other.text, wanted)
                    for row in slow.inputs_of(program)[::3]:
                        self.assertEqual(exact_run(program, row), exact_run(other, row))
                        if rule in ('turn', 'pick', 'unpick'):
                            self.assertEqual(run(program, row), run(other, row))
            self.same(leads(program), tuple(found))
        self.assertGreater(min(often.values()), 20, often)

    def test_rows(self):
        chance = random.Random(102)
        lengths = set()
        for _ in range(300):
            program = some_formula(chance, steps=3)
            row, found = [], program
            for _ in range(chance.randint(0, 6)):
                pairs = leads(found)
                if not pairs:
                    break
                row.append(chance.choice(pairs))
                found = led(found, *row[-1])
            lengths.add(len(row))
            self.assertEqual(led_by(program, tuple(row)).text, pruned(found).text)
            for inputs in slow.inputs_of(program)[::5]:
                self.assertEqual(exact_run(program, inputs), exact_run(led_by(program, tuple(row)), inputs))
            for value in variants(chance, tuple(row), 6):
                self.hold_row(program, value)
        self.assertEqual(lengths, set(range(7)))

    def hold_row(self, program, value):
        """What led_by tells of any value is what its words say."""
        found = program
        for number, part in enumerate(value if type(value) is tuple else [None]):
            right = type(part) is tuple and len(part) == 2 and all(type(word) is str for word in part)
            right = right and part[0] in NAMES and part[1] in [step[0] for step in found.steps]
            text = slow_led(found, *part) if right else None
            if text is None:
                self.refused_with(BadRow, number, led_by, program, value)
                return
            found = Program(text)
        self.assertEqual(led_by(program, value).text, pruned(found).text)

    def test_pruned(self):
        chance = random.Random(103)
        for _ in range(200):
            program = some_program(chance, most_steps=8)
            found = pruned(program)
            wanted = set(program.told)
            for step in reversed(program.steps):
                if step[0] in wanted:
                    wanted |= {part for part in step[2] if isinstance(part, str)}
            self.assertEqual(found.steps, tuple(step for step in program.steps if step[0] in wanted))
            self.assertEqual((found.grid, found.inputs, found.told), (program.grid, program.inputs, program.told))
            self.assertEqual(pruned(found), found)

    def test_kept(self):
        chance = random.Random(104)
        words = {'same': 0, 'unlike': 0}
        for _ in range(400):
            program = some_formula(chance, steps=4)
            program = Program('\n'.join(program.text.split('\n')[:-1] + [f'tell {program.names[-1]}']))
            pairs = [pair for pair in leads(program) if pair[0] in ('group', 'degroup', 'spread', 'gather', 'back')]
            for rule, name in pairs[:2] or leads(program)[:1]:
                other = led(program, rule, name)
                told = kept(program, rule, name)
                words[told[0]] += 1
                self.assertEqual(told, same_for_all(program, other))
                slowly = Slow(program, other)
                self.assertEqual(told[0], 'unlike' if slowly.unlike else 'same')
                if rule in ('turn', 'pick', 'unpick'):
                    self.assertEqual(told[0], 'same')
                for value in variants(chance, told, 6):
                    self.assertIs(shows_kept(program, rule, name, value), slowly.shows_same(value))
        self.assertGreater(min(words.values()), 20)


class Rules(Case):
    """Each rule by itself."""

    def led_steps(self, rule, name, *steps, told='a'):
        """The lines of the steps and results of the led program, None where it is not led."""
        program = Program(HEAD + '\n'.join([*steps, f'tell {told}']))
        if (rule, name) not in leads(program):
            self.refused_with(NotLed, (rule, name), led, program, rule, name)
            return None
        return led(program, rule, name).text.split('\n')[4:]

    def test_turn(self):
        self.same(self.led_steps('turn', 's', 's = a + b'), ['s = b + a', 'tell a'])
        self.same(self.led_steps('turn', 's', 's = a * 3 keep 2 way up', told='s'), ['s = 3 * a keep 2 way up', 'tell s'])
        self.same(self.led_steps('turn', 's', 's = a + a'), ['s = a + a', 'tell a'])
        for step in ('s = a - b', 's = a / b', 's = least a b', 's = most a b', 's = choose a b a b'):
            self.same(self.led_steps('turn', 's', step), None)

    def test_group(self):
        self.same(self.led_steps('group', 't', 's = a + b keep 1', 't = s + c keep 2 way up'),
                  ['s = a + b keep 1', 'n1 = b + c', 't = a + n1 keep 2 way up', 'tell a'])
        self.same(self.led_steps('group', 't', 's = a + 1', 't = s + s', told='t'),
                  ['s = a + 1', 'n1 = 1 + s', 't = a + n1', 'tell t'])
        for steps in (('s = a - b', 't = s + c'), ('s = a + b', 't = c + s'), ('s = a + b', 't = s - c'),
                      ('s = a + b', 't = s * c'), ('s = a * b', 't = s + c'), ('t = a + c',)):
            self.same(self.led_steps('group', 't', *steps), None)

    def test_degroup(self):
        self.same(self.led_steps('degroup', 't', 's = a + b', 't = c + s way zero'),
                  ['s = a + b', 'n1 = c + a', 't = n1 + b way zero', 'tell a'])
        self.same(self.led_steps('degroup', 't', 's = a + b', 't = s + s'), ['s = a + b', 'n1 = s + a', 't = n1 + b', 'tell a'])
        for steps in (('s = a + b', 't = s + c'), ('s = a - b', 't = c + s'), ('s = a + b', 't = c - s'), ('t = 1 + a',)):
            self.same(self.led_steps('degroup', 't', *steps), None)

    def test_spread(self):
        self.same(self.led_steps('spread', 't', 's = a + b', 't = c * s keep 1'),
                  ['s = a + b', 'n1 = c * a', 'n2 = c * b', 't = n1 + n2 keep 1', 'tell a'])
        self.same(self.led_steps('spread', 't', 's = 1 + 2', 't = s * s'),
                  ['s = 1 + 2', 'n1 = s * 1', 'n2 = s * 2', 't = n1 + n2', 'tell a'])
        for steps in (('s = a + b', 't = s * c'), ('s = a - b', 't = c * s'), ('s = a + b', 't = c + s'), ('s = a + b', 't = c / s')):
            self.same(self.led_steps('spread', 't', *steps), None)

    def test_gather(self):
        self.same(self.led_steps('gather', 't', 'p = a * b', 'q = a * c', 't = p + q way down', told='t q'),
                  ['p = a * b', 'q = a * c', 'n1 = b + c', 't = a * n1 way down', 'tell t q'])
        self.same(self.led_steps('gather', 't', 'p = 2 * b', 'q = 2 * 3', 't = q + p')[2:], ['n1 = 3 + b', 't = 2 * n1', 'tell a'])
        self.same(self.led_steps('gather', 't', 'p = a * b', 't = p + p'), ['p = a * b', 'n1 = b + b', 't = a * n1', 'tell a'])
        for steps in (('p = a * b', 'q = b * c', 't = p + q'), ('p = a * b', 'q = c * a', 't = p + q'),
                      ('p = a * b', 'q = a + c', 't = p + q'), ('p = a * b', 'q = a * c', 't = p - q'),
                      ('p = 2 * b', 'q = 3 * c', 't = p + q'), ('p = a * b', 't = p + a')):
            self.same(self.led_steps('gather', 't', *steps), None)

    def test_alone(self):
        self.same(self.led_steps('alone', 's', 's = a + 0 keep 1', 't = s * s', told='s t'), ['t = a * a', 'tell a t'])
        self.same(self.led_steps('alone', 's', 's = b - 0', 't = choose s 0 s s', told='t s'), ['t = choose b 0 b b', 'tell t b'])
        self.same(self.led_steps('alone', 's', 's = 3 + 0', 't = s + a', told='t'), ['t = 3 + a', 'tell t'])
        self.same(self.led_steps('alone', 's', 's = 3 + 0', 't = s + a', told='t s'), None)
        self.same(self.led_steps('alone', 's', 's = 0 - 0', told='s'), None)
        for step in ('s = 0 + a', 's = a + 1', 's = a * 0', 's = 0 - a', 's = a / 1', 's = least a 0'):
            self.same(self.led_steps('alone', 's', step), None)

    def test_back(self):
        self.same(self.led_steps('back', 't', 's = a + b keep 1', 't = s - b', 'u = t + t', told='t u'),
                  ['s = a + b keep 1', 'u = a + a', 'tell a u'])
        self.same(self.led_steps('back', 't', 's = a + 3', 't = s - 3', told='t'), ['s = a + 3', 'tell a'])
        self.same(self.led_steps('back', 't', 's = 4 + b', 't = s - b', 'u = t + a', told='u'), ['s = 4 + b', 'u = 4 + a', 'tell u'])
        self.same(self.led_steps('back', 't', 's = 4 + b', 't = s - b', told='t'), None)
        for steps in (('s = a + b', 't = s - a'), ('s = a + b', 't = b - s'), ('s = a - b', 't = s - b'),
                      ('s = a + b', 't = s + b'), ('s = a + 3', 't = s - 4'), ('t = a - b',)):
            self.same(self.led_steps('back', 't', *steps), None)
        self.same(self.led_steps('back', 't', 's = a + a', 't = s - a'), ['s = a + a', 'tell a'])

    def test_minus(self):
        self.same(self.led_steps('minus', 's', 's = a - b keep 1 way up'), ['n1 = 0 - b', 's = a + n1 keep 1 way up', 'tell a'])
        self.same(self.led_steps('minus', 's', 's = 0 - 0'), ['n1 = 0 - 0', 's = 0 + n1', 'tell a'])
        for step in ('s = a + b', 's = a * b', 's = choose a b a b'):
            self.same(self.led_steps('minus', 's', step), None)

    def test_pick_and_unpick(self):
        self.same(self.led_steps('pick', 's', 's = least a 3'), ['s = choose a 3 a 3', 'tell a'])
        self.same(self.led_steps('unpick', 's', 's = choose a 3 a 3'), ['s = least a 3', 'tell a'])
        self.same(self.led_steps('unpick', 's', 's = choose a a a a'), ['s = least a a', 'tell a'])
        for step in ('s = most a b', 's = choose a b a b'):
            self.same(self.led_steps('pick', 's', step), None)
        for step in ('s = choose a b b a', 's = choose a b a c', 's = choose a 3 a 4', 's = least a b', 's = choose a b c b'):
            self.same(self.led_steps('unpick', 's', step), None)

    def test_fresh_names(self):
        self.same(self.led_steps('spread', 't', 'n2 = a + b', 't = c * n2', 'n1 = t + 1'),
                  ['n2 = a + b', 'n3 = c * a', 'n4 = c * b', 't = n3 + n4', 'n1 = t + 1', 'tell a'])
        self.same(self.led_steps('spread', 'n1', 'n = a + b', 'n1 = c * n', 'n3 = n1 + n1', 'n02 = a + a'),
                  ['n = a + b', 'n2 = c * a', 'n4 = c * b', 'n1 = n2 + n4', 'n3 = n1 + n1', 'n02 = a + a', 'tell a'])
        program = Program('grid 2 3 4 0\ninput n 0 7\ns = n - n\ntell s')
        self.same(led(program, 'minus', 's').text.split('\n')[2:], ['n1 = 0 - n', 's = n + n1', 'tell s'])

    def test_twenty_steps(self):
        for many in (17, 18, 19, 20):
            rows = [f's{number} = a + b' for number in range(many - 1)] + ['t = s0 * s1']
            self.same(self.led_steps('spread', 't', *rows) is None, many > 18)
            rows[-1] = 't = s0 + s1'
            self.same(self.led_steps('group', 't', *rows) is None, many > 19)
            self.same(self.led_steps('turn', 't', *rows) is None, False)
            rows[-1] = 't = s0 - b'
            self.same(self.led_steps('back', 't', *rows) is None, False)
            self.same(self.led_steps('minus', 't', *rows) is None, many > 19)

    def test_the_example(self):
        self.same(rule_names(), NAMES)
        self.same(leads(THERE), (('turn', 's'), ('back', 't'), ('minus', 't')))
        self.same(led_by(THERE, (('minus', 't'), ('group', 't'))).text.split('\n')[3:],
                  ['n1 = 0 - b', 'n2 = b + n1', 't = a + n2', 'tell t'])
        self.same(led_by(THERE, ()).text, THERE.text)
        self.same(kept(THERE, 'turn', 's'), ('same', ('box',)))
        self.same(kept(THERE, 'back', 't')[0], 'unlike')
        self.same(shows_kept(THERE, 'back', 't', ('unlike', (2, 7))), True)
        self.same(shows_kept(THERE, 'back', 't', ('unlike', (1, 7))), False)

    def test_all_that_is_told_stays(self):
        program = Program(HEAD + 's = a + b\nt = s - b\nu = t * s\ntell s a s')
        self.same(pruned(program).text, HEAD + 's = a + b\ntell s a s')
        self.same(pruned(Program(HEAD + 's = a + b\ntell c')).text, HEAD + 'tell c')
        self.same(leads(Program(HEAD + 'tell c')), ())


class Refused(Case):
    """Wrong arguments, the first error first."""

    def test_rules(self):
        for value in wrong_values() + ['Turn', 'turn ', ['turn'], ('turn',), 0]:
            self.refused(BadRule, value, led, THERE, value, None)
            self.refused(BadRule, value, kept, THERE, value, 's')
            self.refused(BadRule, value, shows_kept, THERE, value, None, None)

    def test_steps(self):
        for value in wrong_values() + ['a', 'b', 'n1', ['s'], ('s',)]:
            self.refused(NoStep, value, led, THERE, 'turn', value)
            self.refused(NoStep, value, kept, THERE, 'alone', value)
            self.refused(NoStep, value, shows_kept, THERE, 'turn', value, None)

    def test_not_led(self):
        for rule in ('group', 'degroup', 'spread', 'gather', 'alone', 'back', 'minus', 'pick', 'unpick'):
            for call, told in ((led, ()), (kept, ()), (shows_kept, (None,))):
                self.refused_with(NotLed, (rule, 's'), call, THERE, rule, 's', *told)
        self.refused_with(NotLed, ('turn', 't'), led, THERE, 'turn', 't')

    def test_too_long_to_be_joined(self):
        for many, more, number in ((10, 'turn', None), (10, 'minus', 21), (11, 'turn', 22), (20, 'turn', 40)):
            rows = ''.join([f's{at} = a + b\n' for at in range(many - 1)]) + ('t = a - b\n' if more == 'minus' else 't = a + b\n')
            program = Program(HEAD + rows + 'tell t')
            if number is None:
                self.same(kept(program, more, 't'), ('same', ('box',)))
                continue
            self.refused_with(TooLong, number, kept, program, more, 't')
            self.refused_with(TooLong, number, shows_kept, program, more, 't', None)
        program = Program(HEAD + 's = a + b\ntell a a s')
        self.refused_with(TooLong, 6, kept, program, 'turn', 's')
        self.refused_with(TooLong, 6, shows_kept, program, 'turn', 's', ('same', ('box',)))

    def test_rows(self):
        for value in wrong_values() + [(('turn', 's'),) * 13, [('turn', 's')], 'turn', ('turn', 's'), (('turn', 't'),),
                                       (('turn', 's', 's'),), (('turn',),), (['turn', 's'],), (('s', 'turn'),), (('turn', 'a'),)]:
            if value != ():
                self.refused_with(BadRow, 0, led_by, THERE, value)
        self.same(led_by(THERE, (('turn', 's'),) * 12).text, THERE.text)
        for row, number in (((('turn', 's'), None), 1), ((('turn', 's'), ('back', 't')), 1), ((('turn', 's'), ('turn', 's'), 5), 2),
                            ((('back', 't'), ('turn', 't')), 1), ((('back', 't'), ('turn', 's')), None),
                            ((('turn', 's'), ('turn', 'n1')), 1), ((('minus', 't'), ('minus', 'n1'), ('minus', 'n2')), None),
                            ((('turn', 's'),) * 11 + (('turn', 't'),), 11)):
            if number is None:
                self.assertEqual(led_by(THERE, row).grid, THERE.grid)
            else:
                self.refused_with(BadRow, number, led_by, THERE, row)

    def test_named_arguments(self):
        self.same(led(program=THERE, rule='turn', name='s').steps[0][2], ('b', 'a'))
        self.same(pruned(program=THERE).text, THERE.text)
        self.same(led_by(program=THERE, row=()).text, THERE.text)
        self.same(leads(program=THERE)[0], ('turn', 's'))
        self.same(kept(program=THERE, rule='turn', name='s'), ('same', ('box',)))
        self.same(shows_kept(program=THERE, rule='turn', name='s', value=('same', ('box',))), True)


if __name__ == '__main__':
    unittest.main()
