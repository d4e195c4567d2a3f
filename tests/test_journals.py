"""Section 30: journals."""

import random
import unittest

from roundedsteps.bench import Bench
from roundedsteps.errors import BadJournal
from roundedsteps.journals import journal, read_journal
from roundedsteps.programs import Program
from tests.helping import Case, some_program, wrong_values
from tests.test_bench import BACK, done, refusal, some_deed
from tests.test_seen import SMALL

DEEDS = ['see t 1 2', 'claim within s 1 8', 'narrow x 0 6', 'put u = s + t keep 1', 'refine s 1', 'tell u t', 'claim sound', 'unclaim 0',
         'claim sure u 0', 'tell x', 'take u'][:9]
TEXT = '\n'.join([SMALL.text, 'bench'] + DEEDS)


def line_of(deed):
    """The line of a deed, as the section writes it."""
    word, *told = deed
    parts = told[0] if word in ('tell', 'claim') else told
    return ' '.join([word] + [str(part) for part in parts])


def first_wrong(text):
    """The number of the first wrong line of a text, None if there is none."""
    lines = text.split('\n')
    if 'bench' not in lines:
        return len(lines) + 1
    begins = lines.index('bench')
    try:
        now = (Program('\n'.join(lines[:begins])), (), ())
    except ValueError as error:
        return error.value
    for number, line in enumerate(lines[begins + 1:], begins + 2):
        deed = deed_of(line)
        if deed is None:
            return number
        try:
            wrong = refusal(*now, deed)
            now = now if wrong else done(*now, deed)
        except ValueError:
            wrong = True
        if wrong:
            return number
    return None


def deed_of(line):
    """The deed of a line, None if it has no such form."""
    words = line.split(' ')
    forms = {'narrow': 'nii', 'see': 'nii', 'refine': 'ni', 'take': 'n', 'unclaim': 'i'}
    word, told = words[0], words[1:]
    if '' in words or not told:
        return None
    if word == 'put':
        return (word, line[4:])
    if word == 'tell':
        return (word, tuple(told))
    if word == 'claim':
        return (word, tuple(int(part) if is_written(part) else part for part in told))
    if word not in forms or len(forms[word]) != len(told):
        return None
    if any(kind == 'i' and not is_written(part) for kind, part in zip(forms[word], told)):
        return None
    return (word,) + tuple(int(part) if kind == 'i' else part for kind, part in zip(forms[word], told))


def is_written(word):
    """Whether a word is an integer as Python writes it."""
    try:
        return str(int(word)) == word
    except ValueError:
        return False


class Against(Case):
    """Journals there and back, and spoilt ones."""

    def some_bench(self, chance):
        program = some_program(chance, most_steps=4, most_numbers=4)
        bench = Bench(program)
        deeds = []
        for _ in range(chance.randint(0, 12)):
            deed = some_deed(chance, bench.program, bench.claims)
            if refusal(bench.program, bench.looks, bench.claims, deed) is None:
                getattr(bench, deed[0])(*deed[1:])
                deeds.append(deed)
        return bench, deeds

    def test_there_and_back(self):
        chance = random.Random(241)
        words = set()
        for _ in range(200):
            bench, deeds = self.some_bench(chance)
            words |= {deed[0] for deed in deeds}
            text = journal(bench)
            self.same(text.split('\n'), bench.first.text.split('\n') + ['bench'] + [line_of(deed) for deed in deeds])
            other = read_journal(text)
            self.assertIs(type(other), Bench)
            self.assertTrue(other == bench)
            self.same([other.first.text, other.program.text, other.looks, other.claims, other.done],
                      [bench.first.text, bench.program.text, bench.looks, bench.claims, bench.done])
            self.same(journal(other), text)
            # What was undone is no part of it.
            while bench.done:
                bench.undo()
                self.same(journal(bench), '\n'.join(text.split('\n')[:len(bench.first.text.split('\n')) + 1 + bench.done]))
            other = read_journal(text)
            while other.done:
                other.undo()
            self.assertTrue(other == bench)
        self.assertEqual(len(words), 8)

    def test_spoilt(self):
        chance = random.Random(242)
        found = {True: 0, False: 0}
        for _ in range(1200):
            lines = journal(self.some_bench(chance)[0]).split('\n')
            for _ in range(chance.choice([1, 1, 2])):
                at = chance.randrange(len(lines)) if lines else 0
                way = chance.randint(0, 6)
                if way == 0 and len(lines) > 1:
                    del lines[at]
                elif way == 1:
                    lines.insert(at, lines[chance.randrange(len(lines))])
                elif way == 2:
                    other = chance.randrange(len(lines))
                    lines[at], lines[other] = lines[other], lines[at]
                elif way == 3:
                    lines.insert(at, chance.choice(['undo', 'redo', 'many', 'holds', 'run 1', 'bench', '', 'keep', 'spread a', 'step s0', 'take s0', 'see a 0 1']))
                elif way == 4:
                    words = lines[at].split(' ')
                    words[chance.randrange(len(words))] = chance.choice(['', '1', '-1', '01', 'a', 'x', 'bench', '+1', 's0', '-0', '1.0', '10'])
                    lines[at] = ' '.join(words)
                elif way == 5:
                    lines[at] += chance.choice([' ', ' 1', ' a', '1'])
                else:
                    lines[at] = chance.choice([' ', '']) + lines[at].replace(' ', '  ', 1)
            text = '\n'.join(lines)
            wrong = first_wrong(text)
            found[wrong is None] += 1
            if wrong is None:
                self.same(journal(read_journal(text)), text)
            else:
                self.refused_with(BadJournal, wrong, read_journal, text)
        self.assertGreater(min(found.values()), 30)


class Edges(Case):
    """What the section names."""

    def test_the_example(self):
        bench = read_journal(SMALL.text + '\nbench\nclaim within s 1 8')
        self.same([bench.how_many(), bench.holds(), bench.claims], [8, ('broken',), (('within', 's', 1, 8),)])
        bench.see('t', 1, 2)
        self.same(bench.holds(), ('surely',))
        self.same(journal(bench), SMALL.text + '\nbench\nclaim within s 1 8\nsee t 1 2')

    def test_a_long_one(self):
        bench = read_journal(TEXT)
        self.same(journal(bench), TEXT)
        self.same([bench.done, bench.looks, bench.claims], [9, (('t', 1, 2),), (('sound',), ('sure', 'u', 0))])
        self.same(bench.program.text, 'grid 2 2 3 0\ninput x 0 6\ns = x + 1 keep 1\nt = s - x\nu = s + t keep 1\ntell u t')
        lines = TEXT.split('\n')
        for at in range(len(lines)):
            short = '\n'.join(lines[:at] + lines[at + 1:])
            twice = '\n'.join(lines[:at] + [lines[at]] + lines[at:])
            for text in (short, twice):
                wrong = first_wrong(text)
                if wrong is None:
                    self.same(journal(read_journal(text)), text)
                else:
                    self.refused_with(BadJournal, wrong, read_journal, text)

    def test_no_string(self):
        for value in [value for value in wrong_values() if not isinstance(value, str)]:
            self.refused_with(BadJournal, 0, read_journal, value)

    def test_no_line_bench(self):
        for text, lines in (('', 2), ('\n', 3), (SMALL.text, 6), (SMALL.text + '\n', 7), ('x', 2), ('bench ', 2), (' bench', 2), ('benches', 2),
                            ('x\nBench\nbench x', 4), (SMALL.text + '\nbenches\nsee t 1 2', 8), ('grid 2 2 3 0', 2)):
            self.refused_with(BadJournal, lines, read_journal, text)

    def test_no_program(self):
        for text, line in (('bench', 1), ('bench\nbench', 1), ('\nbench', 1), ('x\nbench', 1), ('grid 2 2 3 0\nbench', 2), (SMALL.text + '\n\nbench', 6),
                           (SMALL.text.replace('x + 1', 'x + y') + '\nbench', 3), (SMALL.text.replace('\ntell t', '') + '\nbench', 5),
                           ('bench\n' + SMALL.text, 1), (SMALL.text + '\nsee t 1 2\nbench', 6)):
            self.refused_with(BadJournal, line, read_journal, text)

    def test_a_bench_without_deeds(self):
        bench = read_journal(SMALL.text + '\nbench')
        self.assertTrue(bench == Bench(SMALL))
        self.same(journal(bench), SMALL.text + '\nbench')
        self.same(journal(Bench(BACK)), BACK.text + '\nbench')

    def test_lines_that_are_no_deeds(self):
        for line in ('', 'bench', 'undo', 'redo', 'many', 'holds', 'spread s', 'run 1', 'step s', 'keep', 'trial', 'copy', 'see', 'see t', 'see t 1', 'see t 1 2 3',
                     'see t 1 02', 'see t 1 +2', 'see t 1 x', 'see  t 1 2', 'see t 1 2 ', ' see t 1 2', 'see t 2 1', 'see z 1 2', 'see t -0 1', 'See t 1 2', 'put',
                     'put u', 'put  u = s + t', 'put u = s + t ', 'put t = s + x', 'take', 'take x', 'take s', 'take t', 'take s t', 'tell', 'tell z', 'tell t t',
                     'tell 1', 'claim', 'claim sound 1', 'claim within s 8 1', 'claim within s 1', 'claim within s 1 08', 'claim same s 1', 'claim x',
                     'unclaim', 'unclaim 0', 'unclaim x', 'unclaim 0 0', 'refine s', 'refine s 4', 'refine x 1', 'refine s 1 1', 'narrow x 0', 'narrow s 0 1',
                     'narrow x 0 5', 'narrow x 3 2', 'narrow x 0 12 1', 'grid 2 2 3 0', 'tell t\tx'):
            for ahead, behind in (([], []), (['see t 1 2'], ['claim sound'])):
                self.refused_with(BadJournal, 6 + len(ahead) + 1, read_journal, '\n'.join([SMALL.text, 'bench'] + ahead + [line] + behind))

    def test_more_than_fit(self):
        text = '\n'.join([SMALL.text, 'bench'] + ['see t 1 2'] * 6 + ['claim sound'] * 6)
        self.same(journal(read_journal(text)), text)
        self.refused_with(BadJournal, 13, read_journal, '\n'.join([SMALL.text, 'bench'] + ['see t 1 2'] * 7))
        self.refused_with(BadJournal, 19, read_journal, text + '\nclaim sound')

    def test_what_kept_blocks_did(self):
        bench = Bench(SMALL)
        with bench.trial():
            bench.see('t', 1, 2)
            bench.keep()
        with bench.trial():
            bench.see('t', 1, 3)
            self.same(journal(bench), SMALL.text + '\nbench\nsee t 1 2\nsee t 1 3')
        self.same(journal(bench), SMALL.text + '\nbench\nsee t 1 2')

    def test_named_arguments(self):
        self.same(journal(bench=read_journal(text=TEXT)), TEXT)


if __name__ == '__main__':
    unittest.main()
