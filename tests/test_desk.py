"""Section 30: a desk."""

import random
import unittest

from roundedsteps.bench import Bench
from roundedsteps.desk import Desk
from roundedsteps.errors import (BadClaim, BadInputs, BadJournal, BadLine, BadMore, BadRange, BadTold, Full, NoClaim, NoInput, NoName, NoStep,
                                 NothingToRedo, NothingToUndo, RoundError, Wanted)
from roundedsteps.journals import journal, read_journal
from roundedsteps.runs import run
from tests import slow
from tests.helping import Case, some_program, wrong_values
from tests.test_bench import some_deed
from tests.test_journals import TEXT, line_of
from tests.test_seen import SMALL

PLAIN = SMALL.text + '\nbench'


class Against(Case):
    """Held against a bench on which the same is done by its methods."""

    def test_all_lines(self):
        chance = random.Random(251)
        counts = {}
        for _ in range(120):
            program = some_program(chance, most_steps=4, most_numbers=4)
            desk, bench = Desk(program.text + '\nbench'), Bench(program)
            for _ in range(25):
                line, wanted = self.some_line(chance, bench)
                word = line.split(' ')[0]
                try:
                    answer = wanted()
                except RoundError as error:
                    found = self.error_of(desk.say, line)
                    self.assertIs(type(found), type(error))
                    self.same(found.value, error.value)
                    counts[word, 'refused'] = counts.get((word, 'refused'), 0) + 1
                else:
                    self.same(desk.say(line), answer)
                    counts[word, 'answered'] = counts.get((word, 'answered'), 0) + 1
                self.assertTrue(desk.bench == bench)
                self.same(journal(desk.bench), journal(bench))
        words = ['narrow', 'see', 'refine', 'put', 'take', 'tell', 'claim', 'unclaim', 'undo', 'redo', 'many', 'holds', 'spread', 'run', 'step']
        self.assertEqual({word for word, kind in counts if kind == 'answered'}, set(words))
        self.assertEqual({word for word, kind in counts if kind == 'refused'} | {'claim', 'many', 'holds'}, set(words))

    def some_line(self, chance, bench):
        """A line, and what does the same on a bench."""
        way = chance.randint(0, 13)
        name = chance.choice(list(bench.program.names) + ['zz'])
        if way == 0:
            return 'undo', lambda: bench.undo() or 'ok'
        if way == 1:
            return 'redo', lambda: bench.redo() or 'ok'
        if way == 2:
            return 'many', lambda: str(bench.how_many())
        if way == 3:
            return 'holds', lambda: ' '.join(bench.holds()) or 'none'
        if way == 4:
            def worths():
                told = bench.spread(name)
                return 'none' if told == ('none',) else f'{told[1]} {told[3]}'
            return f'spread {name}', worths
        if way in (5, 6):
            inputs = chance.choice(slow.inputs_of(bench.program))
            if chance.random() < 0.2:
                inputs = inputs + (1,) if chance.random() < 0.5 else tuple(number + 1 for number in inputs)

            def results():
                told = run(bench.program, inputs)
                return ' '.join(str(worth) for worth in told[1]) if told[0] == 'tells' else ' '.join(told)
            return 'run ' + ' '.join(str(number) for number in inputs), results
        if way == 7:
            def line():
                found = [text for text in bench.program.text.split('\n') if text.startswith(name + ' = ')]
                if not found:
                    raise NoStep(name)
                return found[0]
            return f'step {name}', line
        deed = some_deed(chance, bench.program, bench.claims)
        return line_of(deed), lambda: getattr(bench, deed[0])(*deed[1:]) or 'ok'


class Edges(Case):
    """What the section names."""

    def test_the_example(self):
        desk = Desk(PLAIN + '\nclaim within s 1 8')
        self.same([desk.say(line) for line in ('many', 'see t 1 2', 'many', 'holds', 'spread s', 'run 6', 'put u = s + t keep 1', 'step u', 'undo')],
                  ['8', 'ok', '5', 'surely', '1 8', '2', 'ok', 'u = s + t keep 1', 'ok'])
        self.same(journal(desk.bench), PLAIN + '\nclaim within s 1 8\nsee t 1 2')

    def test_the_very_bench(self):
        desk = Desk(TEXT)
        self.assertIs(type(desk.bench), Bench)
        bench = desk.bench
        self.assertTrue(bench == read_journal(TEXT))
        desk.say('undo')
        self.assertIs(desk.bench, bench)
        self.same(bench.done, 8)
        bench.undo()
        self.same(desk.say('redo'), 'ok')
        self.same(bench.done, 8)

    def test_each_form(self):
        desk = Desk(PLAIN)
        for line, answer in (
                ('holds', 'none'), ('many', '8'), ('narrow x 0 8', 'ok'), ('many', '7'), ('see t 0 1', 'ok'), ('see s -24 24', 'ok'), ('many', '6'),
                ('claim sound', 'ok'), ('claim within s 1 4', 'ok'), ('claim same s x', 'ok'), ('holds', 'surely broken broken'), ('unclaim 1', 'ok'),
                ('holds', 'surely broken'), ('refine s 1', 'ok'), ('step s', 's = x + 1 keep 1'), ('refine s 0', 'ok'), ('step s', 's = x + 1'),
                ('put u = t * 2 way up', 'ok'), ('step u', 'u = t * 2 way up'), ('put m = choose s t 0 x', 'ok'), ('step m', 'm = choose s t 0 x'),
                ('tell u s m', 'ok'), ('run 8', '0 8 8'), ('run 3', '2 4 3'), ('take m', None), ('tell s', 'ok'), ('take m', 'ok'), ('undo', 'ok'), ('step m', 'm = choose s t 0 x'),
                ('redo', 'ok'), ('step m', None), ('spread x', '0 8'), ('spread t', '0 1'), ('see t 12 12', 'ok'), ('many', '0'), ('spread x', 'none'),
                ('holds', 'surely surely')):
            if answer is None:
                self.error_of(desk.say, line)
            else:
                self.same(desk.say(line), answer)

    def test_runs_that_do_not_tell(self):
        desk = Desk('grid 2 2 2 0\ninput a 0 12\ninput b 0 12\ns = a + b\nq = s / b\ntell q s a\nbench')
        self.same([desk.say(line) for line in ('run 4 4', 'run 12 12', 'run 4 0', 'run 0 1')], ['2 8 4', 'over s', 'nought q', '1 1 0'])
        below = Desk('grid 2 2 2 0\ninput a -4 -1\nt = a - 8\ntell t a\nbench')
        self.same([below.say('run -4'), below.say('spread t'), below.say('see t -12 -12'), below.say('spread a')], ['-12 -4', '-12 -8', 'ok', '-4 -3'])

    def test_lines_of_no_form(self):
        desk = Desk(PLAIN + '\nsee t 1 2\nclaim sound')
        lines = ['', ' ', 'many ', ' many', 'many 1', 'Many', 'MANY', 'undo 1', 'redo 1', 'undo  ', 'holds s', 'spread', 'spread s t', 'spread  s', 'run', 'run x', 'run 1 x',
                 'run 01', 'run +1', 'run 1 ', 'run  1', 'run 1  2', 'run -0', 'run 1.0', 'run 1_0', 'step', 'step s t', 'narrow', 'narrow x', 'narrow x 0', 'narrow x 0 1 2',
                 'narrow x a 1', 'narrow x 0 b', 'narrow 0 1 x', 'narrow x 00 1', 'see', 'see t 1', 'see t 1 2 3', 'see t one 2', 'see 1 2 t', 'see t 1 2\n', 'see t\n1 2',
                 'refine', 'refine s', 'refine s x', 'refine s 1 2', 'refine s 01', 'put', 'put ', 'put  u = s + t', 'put u = s +  t', 'put u = s + t ', 'take', 'take s t',
                 'take  t', 'tell', 'tell ', 'tell s  t', 'claim', 'claim ', 'claim  sound', 'unclaim', 'unclaim x', 'unclaim 0 1', 'unclaim 00', 'unclaim -', 'bench', 'keep',
                 'trial', 'copy', 'tried', 'journal', 'u = s + t', 'grid 2 2 3 0', 'many\n', '\nmany', 'how_many', 'first', 'done', 'claims', 'undo undo', 'many holds',
                 'put u = s + t\ntake u', '\n']
        before = journal(desk.bench)
        for line in lines + wrong_values() + [('many',), ['many'], 5]:
            self.refused(BadLine, line, desk.say, line)
        self.same(journal(desk.bench), before)

    def test_what_the_bench_raises(self):
        desk = Desk(PLAIN + '\nsee t 1 2\nclaim sound')
        for line, error, value in (
                ('narrow s 0 1', NoInput, 's'), ('narrow 5 0 1', NoInput, '5'), ('narrow x 0 5', BadRange, (0, 5)), ('narrow x 2 1', BadRange, (2, 1)),
                ('narrow x -1 1', BadRange, (-1, 1)), ('see z 0 1', NoName, 'z'), ('see t 2 1', BadRange, (2, 1)), ('see t 0 5', BadRange, (0, 5)),
                ('refine x 1', NoStep, 'x'), ('refine 1 1', NoStep, '1'), ('refine s 4', BadMore, 4), ('refine s -1', BadMore, -1), ('put x', BadLine, 'x'),
                ('put u = s + y', BadLine, 'u = s + y'), ('put put u = s + t', BadLine, 'put u = s + t'), ('put 1', BadLine, '1'), ('take x', NoStep, 'x'),
                ('take s', Wanted, 's'), ('take t', Wanted, 't'), ('tell z', BadTold, ('z',)), ('tell t t', BadTold, ('t', 't')), ('tell 1', BadTold, ('1',)),
                ('tell x s t x s', BadTold, ('x', 's', 't', 'x', 's')), ('claim x', BadClaim, ('x',)), ('claim 1', BadClaim, (1,)), ('claim sound 1', BadClaim, ('sound', 1)),
                ('claim within s 01 2', BadClaim, ('within', 's', '01', 2)), ('claim within s 2 1', BadClaim, ('within', 's', 2, 1)), ('claim sure s -1', BadClaim, ('sure', 's', -1)),
                ('claim same s 5', BadClaim, ('same', 's', 5)), ('claim plain -0', BadClaim, ('plain', '-0')), ('unclaim 1', NoClaim, 1), ('unclaim -1', NoClaim, -1), ('redo', NothingToRedo, None), ('spread z', NoName, 'z'),
                ('spread 1', NoName, '1'), ('run 5', BadInputs, (5,)), ('run 1 2', BadInputs, (1, 2)), ('run -1', BadInputs, (-1,)), ('step x', NoStep, 'x'),
                ('step 1', NoStep, '1'), ('step z', NoStep, 'z')):
            self.refused_with(error, value, desk.say, line)
        for _ in range(5):
            desk.say('see x 0 12')
        self.refused_with(Full, 6, desk.say, 'see x 0 12')
        for _ in range(5):
            desk.say('claim sound')
        self.refused_with(Full, 6, desk.say, 'claim sound')
        for _ in range(12):
            desk.say('undo')
        self.refused_with(NothingToUndo, None, desk.say, 'undo')

    def test_wrong_journals(self):
        for text, number in (('', 2), (SMALL.text, 6), ('bench', 1), (PLAIN + '\nundo', 7), (PLAIN + '\n', 7), (PLAIN + '\nmany', 7), (None, 0), ((), 0), (5, 0),
                             (True, 0), ([PLAIN], 0), (SMALL, 0)):
            self.refused_with(BadJournal, number, Desk, text)

    def test_long_integers(self):
        desk = Desk(PLAIN)
        self.same(desk.say('claim within s -' + '9' * 1900 + ' ' + '9' * 1900), 'ok')
        self.same(desk.bench.claims, (('within', 's', -(10 ** 1900 - 1), 10 ** 1900 - 1),))
        self.assertTrue(read_journal(journal(desk.bench)) == desk.bench)

    def test_named_arguments(self):
        desk = Desk(text=PLAIN)
        self.same(desk.say(line='many'), '8')


if __name__ == '__main__':
    unittest.main()
