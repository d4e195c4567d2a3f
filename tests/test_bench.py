"""Section 29: a bench."""

import random
import unittest
from itertools import product

from roundedsteps.bench import Bench
from roundedsteps.claims import is_so
from roundedsteps.errors import (BadClaim, BadLine, BadMore, BadRange, BadTold, Full, NoClaim, NoInput, NoName, NoStep, NothingToRedo,
                                 NothingToUndo, NoTrial, RoundError, Wanted)
from roundedsteps.journals import journal
from roundedsteps.programs import Program
from roundedsteps.seen import how_many, is_left, spread, surely
from tests import slow
from tests.helping import Case, some_claims, some_program, some_range, some_step, wrong_values
from tests.test_claims import wrong_claims
from tests.test_seen import SMALL

LINES = ['grid 2 3 4 0', 'input a 1 7', 'input b 1 7', 's = a + b', 't = s - a', 'm = most a t', 'tell t']
BACK = Program('\n'.join(LINES))


def stand(bench):
    """All that a bench tells, and what can be undone and done again."""
    other = bench.copy()
    steps = []
    while other.done:
        other.undo()
        steps.append((other.program.text, other.looks, other.claims, other.done))
    other = bench.copy()
    while True:
        try:
            other.redo()
        except NothingToRedo:
            break
        steps.append((other.program.text, other.looks, other.claims, other.done))
    return (bench.program.text, bench.looks, bench.claims, bench.done, journal(bench), steps)


class Model:
    """A bench as a list of deeds: each time all of them are done anew, by the plain functions of section 7."""

    def __init__(self, program):
        self.first, self.deeds, self.gone = program, [], []

    def now(self):
        program, looks, claims = self.first, (), ()
        for deed in self.deeds:
            program, looks, claims = done(program, looks, claims, deed)
        return program, looks, claims


def done(program, looks, claims, deed):
    """What a right deed makes of a program, looks and claims."""
    word, *told = deed
    lines = program.text.split('\n')
    if word == 'narrow':
        box = tuple((told[1], told[2]) if name == told[0] else (low, high) for name, low, high in program.inputs)
        program = program.narrowed(box)
    elif word == 'see':
        looks += (tuple(told),)
    elif word == 'refine':
        program = program.with_more(((told[0], told[1]),))
    elif word == 'put':
        program = Program('\n'.join(lines[:-1] + [told[0]] + lines[-1:]))
    elif word == 'take':
        program = Program('\n'.join(line for line in lines if not line.startswith(told[0] + ' = ')))
    elif word == 'tell':
        program = Program('\n'.join(lines[:-1] + ['tell ' + ' '.join(told[0])]))
    elif word == 'claim':
        claims += (told[0],)
    else:
        claims = claims[:told[0]] + claims[told[0] + 1:]
    return program, looks, claims


def refusal(program, looks, claims, deed):
    """The error that a deed of right kinds raises, None if it is right."""
    word, *told = deed
    grid = program.grid
    steps = {step[0]: step for step in program.steps}
    inputs = {row[0]: row for row in program.inputs}
    if word == 'narrow':
        if told[0] not in inputs:
            return NoInput
        low, high = told[1:]
        return None if low in grid and high in grid and inputs[told[0]][1] <= low <= high <= inputs[told[0]][2] else BadRange
    if word == 'see':
        if told[0] not in program:
            return NoName
        right = told[1] in grid and told[2] in grid and told[1] <= told[2]
        return BadRange if not right else Full if len(looks) == 6 else None
    if word == 'refine':
        return NoStep if told[0] not in steps or steps[told[0]][1] not in '+-*/' else None if told[1] in range(4) else BadMore
    if word == 'put':
        try:
            done(program, looks, claims, deed)
        except RoundError:
            return BadLine
        return None
    if word == 'take':
        if told[0] not in steps:
            return NoStep
        used = [part for step in program.steps for part in step[2]] + list(program.told) + [look[0] for look in looks]
        used += [part for claim in claims for part in claim[1:] if isinstance(part, str)]
        return Wanted if told[0] in used else None
    if word == 'tell':
        names = told[0]
        return None if 1 <= len(names) <= 4 and len(set(names)) == len(names) and all(name in program for name in names) else BadTold
    if word == 'claim':
        try:
            is_so(program, told[0], slow.inputs_of(program)[0])
        except BadClaim:
            return BadClaim
        return Full if len(claims) == 6 else None
    return None if 0 <= told[0] < len(claims) else NoClaim


def some_deed(chance, program, claims):
    """A deed of any sort, right or not."""
    names = list(program.names)
    name = chance.choice(names)
    word = chance.choice(['narrow', 'see', 'refine', 'put', 'put', 'take', 'take', 'tell', 'claim', 'claim', 'unclaim'])
    if word == 'narrow':
        name = chance.choice([row[0] for row in program.inputs] * 4 + [name])
        rows = [row for row in program.inputs if row[0] == name] or [('', 0, 1)]
        ranks = sorted(program.grid.rank(end) for end in rows[0][1:])
        ends = [program.grid.number(chance.randint(ranks[0], ranks[1])) for _ in range(2)]
        return (word, name, min(ends) - (chance.random() < 0.1), max(ends))
    if word == 'see':
        return (word, name) + (some_range(chance, program.grid, 8) if chance.random() < 0.9 else (2, 1))
    if word == 'refine':
        return (word, name, chance.choice([0, 1, 2, 3, 3, 4]))
    if word == 'put':
        return (word, some_step(chance, program.grid, chance.choice(['u', 'v', 'w', 'u1', 'v2', name]), names))
    if word == 'take':
        return (word, name)
    if word == 'tell':
        return (word, tuple(chance.choice(names) for _ in range(chance.choice([1, 1, 2, 3, 5]))))
    if word == 'claim':
        return (word, chance.choice(some_claims(chance, program)))
    return (word, chance.randint(-1, len(claims)))


def do(bench, deed):
    getattr(bench, deed[0])(*deed[1:])


class Against(Case):
    """Held against a list of deeds that are done anew each time."""

    def test_deeds(self):
        chance = random.Random(231)
        found = set()
        for _ in range(150):
            program = some_program(chance, most_steps=4, most_numbers=4)
            bench, model = Bench(program), Model(program)
            for _ in range(25):
                now = model.now()
                way = chance.random()
                if way < 0.15:
                    if not model.deeds:
                        self.refused(NothingToUndo, None, bench.undo)
                    else:
                        self.assertIsNone(bench.undo())
                        model.gone.append(model.deeds.pop())
                elif way < 0.28:
                    if not model.gone:
                        self.refused(NothingToRedo, None, bench.redo)
                    else:
                        self.assertIsNone(bench.redo())
                        model.deeds.append(model.gone.pop())
                else:
                    deed = some_deed(chance, now[0], now[2])
                    error = refusal(*now, deed)
                    found.add((deed[0], error))
                    if error is None:
                        self.assertIsNone(do(bench, deed))
                        model.deeds.append(deed)
                        model.gone = []
                    else:
                        self.assertIs(type(self.error_of(do, bench, deed)), error)
                wanted = model.now()
                self.same((bench.program.text, bench.looks, bench.claims, bench.done), (wanted[0].text, wanted[1], wanted[2], len(model.deeds)))
            self.assertIs(bench.first, program)
        self.assertLessEqual({(word, None) for word in ('narrow', 'see', 'refine', 'put', 'take', 'tell', 'claim', 'unclaim')}, found)
        self.assertLessEqual({('narrow', NoInput), ('narrow', BadRange), ('see', BadRange), ('refine', NoStep), ('refine', BadMore),
                              ('put', BadLine), ('take', NoStep), ('take', Wanted), ('tell', BadTold), ('unclaim', NoClaim)}, found)

    def test_what_holds(self):
        chance = random.Random(232)
        found = set()
        for _ in range(120):
            program = some_program(chance, most_steps=4, most_numbers=4)
            bench = Bench(program)
            for _ in range(12):
                deed = some_deed(chance, bench.program, bench.claims)
                if refusal(bench.program, bench.looks, bench.claims, deed) is None:
                    do(bench, deed)
            now = bench.program
            left = [row for row in slow.inputs_of(now) if is_left(now, bench.looks, row)]
            self.same(bench.how_many(), len(left))
            self.same(bench.how_many(), how_many(now, bench.looks))
            holds = tuple('surely' if all(is_so(now, claim, row) for row in left) else 'broken' for claim in bench.claims)
            self.same(bench.holds(), holds)
            self.same(holds, tuple(surely(now, bench.looks, claim)[0] for claim in bench.claims))
            found |= set(holds) | {len(left) > 0}
            for name in now.names:
                self.same(bench.spread(name), spread(now, bench.looks, name))
                self.assertIn(name, bench)
        self.assertEqual(found, {'surely', 'broken', True, False})

    def test_trials(self):
        chance = random.Random(233)
        kept = 0
        for _ in range(80):
            bench = Bench(some_program(chance, most_steps=4, most_numbers=3))
            self.some_deeds(chance, bench, 6)
            before = stand(bench)
            keep = chance.random() < 0.4
            with bench.trial() as held:
                self.assertIs(held, bench)
                self.some_deeds(chance, bench, 5)
                inner = chance.random()
                between = stand(bench)
                with bench.trial():
                    self.some_deeds(chance, bench, 4)
                    if inner < 0.5:
                        bench.keep()
                    after = stand(bench)
                self.assertEqual(stand(bench), after if inner < 0.5 else between)
                if keep:
                    bench.keep()
                self.some_deeds(chance, bench, 3)
                last = stand(bench)
            kept += keep
            self.assertEqual(stand(bench), last if keep else before)
            self.refused(NoTrial, None, bench.keep)
        self.assertGreater(kept, 20)

    def some_deeds(self, chance, bench, many):
        """Some right deeds, some undone and done again."""
        for _ in range(many):
            way = chance.random()
            if way < 0.25 and bench.done:
                bench.undo()
            elif way < 0.4:
                try:
                    bench.redo()
                except NothingToRedo:
                    pass
            else:
                deed = some_deed(chance, bench.program, bench.claims)
                if refusal(bench.program, bench.looks, bench.claims, deed) is None:
                    do(bench, deed)

    def test_what_raises_changes_nothing(self):
        chance = random.Random(234)
        for _ in range(60):
            bench = Bench(some_program(chance, most_steps=4, most_numbers=3))
            self.some_deeds(chance, bench, 6)
            before = stand(bench)
            for _ in range(20):
                deed = some_deed(chance, bench.program, bench.claims)
                if refusal(bench.program, bench.looks, bench.claims, deed) is not None:
                    self.error_of(do, bench, deed)
            for value in (None, True, [], 'zz', ('t',)):
                for call in (bench.refine, bench.narrow, bench.see):
                    self.error_of(call, value, *[value] * (1 if call == bench.refine else 2))
                for call in (bench.put, bench.tell, bench.claim, bench.unclaim, bench.take, bench.spread):
                    if not (call == bench.tell and value == ('t',) and 't' in bench):
                        self.error_of(call, value)
            self.error_of(bench.keep)
            self.assertEqual(stand(bench), before)


class Deeds(Case):
    """Each deed, as the section tells it."""

    def test_the_example(self):
        bench = Bench(SMALL)
        self.assertIsNone(bench.claim(('within', 's', 1, 8)))
        self.assertIsNone(bench.see('t', 1, 2))
        self.same([bench.how_many(), bench.holds(), bench.done], [5, ('surely',), 2])
        self.same(bench.tried(lambda held: held.narrow('x', 0, 3) or held.how_many()), 4)
        self.assertIsNone(bench.undo())
        self.same([bench.holds(), bench.looks, bench.program == SMALL], [('broken',), (), True])

    def test_a_new_bench(self):
        bench = Bench(BACK)
        self.assertIs(bench.first, BACK)
        self.assertTrue(bench.program == BACK)
        self.same([bench.looks, bench.claims, bench.done, bench.holds(), bench.how_many()], [(), (), 0, (), 49])
        self.refused(NothingToUndo, None, bench.undo)
        self.refused(NothingToRedo, None, bench.redo)
        self.same([name in bench for name in ('a', 's', 'm', 'x', 'tell', '', None, 1, ('a',), ['a'], bench)], [True] * 3 + [False] * 8)

    def test_narrow(self):
        bench = Bench(BACK)
        bench.narrow('b', 2, 5)
        bench.narrow('b', 3, 3)
        bench.narrow('b', 3, 3)
        self.same([bench.program.inputs, bench.done, bench.first.inputs[1]], [(('a', 1, 7), ('b', 3, 3)), 3, ('b', 1, 7)])
        for low, high in ((2, 3), (3, 4), (4, 3), (3, None), (True, 3), (3, '3'), (3.0, [])):
            self.refused_with(BadRange, (low, high), bench.narrow, 'b', low, high)
        bench.undo()
        bench.undo()
        self.same(bench.program.inputs, (('a', 1, 7), ('b', 2, 5)))
        wide = Bench(Program('grid 2 3 4 0\ninput a 0 20\ntell a'))
        self.refused_with(BadRange, (0, 9), wide.narrow, 'a', 0, 9)
        wide.narrow('a', 8, 10)
        self.same(wide.program.inputs, (('a', 8, 10),))
        for value in wrong_values() + ['s', 'c', 'A']:
            self.refused(NoInput, value, bench.narrow, value, None, None)

    def test_see(self):
        bench = Bench(BACK)
        for name in ('a', 't', 't', 's', 'm', 'b'):
            bench.see(name, -112, 16)
        self.same(bench.looks, tuple((name, -112, 16) for name in ('a', 't', 't', 's', 'm', 'b')))
        self.refused_with(Full, 6, bench.see, 'a', 1, 2)
        self.refused_with(BadRange, (2, 1), bench.see, 'a', 2, 1)
        self.refused_with(BadRange, (0, 9), bench.see, 'a', 0, 9)
        self.refused_with(BadRange, (0, 128), bench.see, 'a', 0, 128)
        for value in wrong_values():
            self.refused(NoName, value, bench.see, value, None, None)
            self.refused_with(BadRange, (value, 1), bench.see, 'a', value, 1)
            self.refused_with(BadRange, (1, value), bench.see, 'a', 1, value)
        bench.undo()
        bench.see('s', 1, 1)
        self.same(bench.looks[-1], ('s', 1, 1))

    def test_refine(self):
        bench = Bench(BACK)
        bench.refine('s', 2)
        self.same(bench.program.text.split('\n')[3], 's = a + b keep 2')
        bench.refine('s', 1)
        bench.refine('t', 3)
        self.same(bench.program.text.split('\n')[3:5], ['s = a + b keep 1', 't = s - a keep 3'])
        bench.refine('s', 0)
        self.same(bench.program.text.split('\n')[3], 's = a + b')
        for value in wrong_values() + ['m', 'a', 'x']:
            self.refused(NoStep, value, bench.refine, value, None)
        for value in wrong_values() + [4, -1, '1']:
            self.refused(BadMore, value, bench.refine, 's', value)
        many = Bench(Program('grid 2 29 2 0\ninput a 1 2\ns = a + 1\ntell s'))
        self.refused(BadMore, 2, many.refine, 's', 2)
        many.refine('s', 1)
        self.same(many.program.steps[0][3], 1)

    def test_put(self):
        bench = Bench(BACK)
        for line in ('u = a * t keep 3 way up', 'v = choose a b u 5', 'w = 3 / 4', 'z1 = least v u'):
            bench.put(line)
        self.same(bench.program.text.split('\n'), LINES[:-1] + ['u = a * t keep 3 way up', 'v = choose a b u 5', 'w = 3 / 4', 'z1 = least v u', 'tell t'])
        wrong = ['', 'x', 'x = a', 'x = a + c', 'x = x + a', 's = a + b', 'a = b + b', 'x = a +  b', ' x = a + b', 'x = a + b ', 'x = a + b\n', 'x = a + 9',
                 'x = a + b keep 0', 'x = a + b keep 4', 'x = a + b way near', 'x = a + b way up keep 1', 'x=a+b', 'tell s', 'input c 1 2', 'tell = a + b',
                 'x = a + 01', 'x = least a b way up', 'x = least a', 'x = choose a b', 'X = a + b', 'x1234 = a + b', 'x = a + b\ny = a + b', 'x = a ^ b',
                 'grid 2 3 4 0', 'put x = a + b']
        for value in wrong_values() + wrong:
            self.refused(BadLine, value, bench.put, value)
        self.same(bench.done, 4)

    def test_twenty_steps(self):
        bench = Bench(SMALL)
        for number in range(18):
            bench.put(f'u{number} = s + t')
        self.same(len(bench.program), 20)
        line = 'v = s + t'
        self.refused(BadLine, line, bench.put, line)
        bench.take('u3')
        bench.put(line)
        self.refused(BadLine, 'w = s + t', bench.put, 'w = s + t')

    def test_take(self):
        bench = Bench(BACK)
        for value in wrong_values() + ['a', 'b', 'x']:
            self.refused(NoStep, value, bench.take, value)
        self.refused_with(Wanted, 's', bench.take, 's')
        self.refused_with(Wanted, 't', bench.take, 't')
        bench.take('m')
        self.same(bench.program.text.split('\n'), LINES[:5] + LINES[6:])
        self.refused_with(NoStep, 'm', bench.take, 'm')
        self.refused_with(Wanted, 't', bench.take, 't')
        bench.tell(('a',))
        bench.take('t')
        bench.take('s')
        self.same(bench.program.text.split('\n'), LINES[:3] + ['tell a'])
        for _ in range(4):
            bench.undo()
        self.assertTrue(bench.program == BACK)

    def test_what_looks_and_claims_want(self):
        for claim in (('plain', 'm'), ('atmost', 'a', 'm'), ('same', 'm', 'a'), ('within', 'm', 1, 2), ('off', 'm', 1)):
            bench = Bench(BACK)
            bench.claim(claim)
            self.refused_with(Wanted, 'm', bench.take, 'm')
            bench.unclaim(0)
            bench.take('m')
        bench = Bench(BACK)
        bench.see('m', 1, 2)
        self.refused_with(Wanted, 'm', bench.take, 'm')
        bench.undo()
        bench.take('m')

    def test_steps_that_are_called_as_claims_are(self):
        # The word of a claim is no name: within within t is wanted by none but its own name.
        bench = Bench(Program('\n'.join(LINES[:5] + ['within = a + b', 'same = within + b', 'tell t'])))
        bench.claim(('within', 't', 1, 8))
        bench.claim(('same', 't', 'within'))
        self.refused_with(Wanted, 'within', bench.take, 'within')
        bench.take('same')
        bench.unclaim(1)
        bench.take('within')
        self.same(len(bench.program), 2)

    def test_tell(self):
        bench = Bench(BACK)
        for names in (('s',), ('a', 'b', 's', 'm'), ('m', 'a')):
            bench.tell(names)
            self.same(bench.program.told, names)
        wrong = [(), ('a', 'a'), ('a', 'b', 's', 't', 'm'), ('x',), ['a'], 'a', ('a', None), (('a',),), ('a', ['b']), ('', 'a'), ('a', {})]
        for value in wrong_values() + wrong:
            self.refused(BadTold, value, bench.tell, value)

    def test_claims(self):
        bench = Bench(BACK)
        claims = [('sound',), ('same', 't', 'b'), ('within', 'm', 1, 8), ('plain', 's'), ('off', 't', 1), ('sure', 't', 0)]
        for claim in claims:
            bench.claim(claim)
        self.same(bench.claims, tuple(claims))
        self.assertTrue(all(one is other for one, other in zip(bench.claims, claims)))
        self.refused_with(Full, 6, bench.claim, ('sound',))
        self.same(bench.holds(), ('surely', 'broken', 'surely', 'broken', 'surely', 'surely'))
        for value in wrong_claims():
            if value != ('straight', 'c'):
                self.refused(BadClaim, value, bench.claim, value)
        for value in wrong_values() + [6, -1, '0', (0,)]:
            self.refused(NoClaim, value, bench.unclaim, value)
        bench.unclaim(1)
        self.same(bench.claims, tuple(claims[:1] + claims[2:]))
        bench.unclaim(4)
        self.same(bench.claims, tuple(claims[:1] + claims[2:5]))
        self.refused_with(NoClaim, 4, bench.unclaim, 4)
        empty = Bench(BACK)
        self.refused_with(NoClaim, 0, empty.unclaim, 0)

    def test_spread(self):
        bench = Bench(SMALL)
        bench.see('t', 1, 2)
        self.same(bench.spread('s'), ('worths', 1, (0,), 8, (6,)))
        bench.see('t', 3, 12)
        self.same([bench.spread('s'), bench.how_many()], [('none',), 0])
        for value in wrong_values():
            if value != 'x':
                self.refused(NoName, value, bench.spread, value)

    def test_named_arguments(self):
        bench = Bench(program=BACK)
        bench.narrow(name='a', low=1, high=3)
        bench.see(name='t', low=1, high=4)
        bench.refine(name='s', more=1)
        bench.put(line='u = a + 1')
        bench.take(name='u')
        bench.tell(names=('s',))
        bench.claim(claim=('sound',))
        bench.unclaim(number=0)
        self.same([bench.done, bench.spread(name='t')[0], bench.tried(look=lambda held: held.done, keep=True)],
                  [8, 'worths', 8])


class Blocks(Case):
    """undo, redo, trials, copies, equality."""

    def made(self):
        bench = Bench(BACK)
        bench.see('t', 1, 4)
        bench.claim(('same', 't', 'b'))
        bench.narrow('a', 1, 5)
        return bench

    def test_undo_and_redo(self):
        bench = self.made()
        texts = [journal(bench)]
        for _ in range(3):
            bench.undo()
            texts.append(journal(bench))
        self.refused(NothingToUndo, None, bench.undo)
        self.same([bench.done, bench.looks, bench.claims], [0, (), ()])
        for text in texts[-2::-1]:
            bench.redo()
            self.same(journal(bench), text)
        self.refused(NothingToRedo, None, bench.redo)

    def test_redo_until_another_deed_comes(self):
        bench = self.made()
        bench.undo()
        bench.undo()
        self.error_of(bench.take, 's')
        self.error_of(bench.narrow, 'a', 5, 1)
        self.error_of(bench.keep)
        bench.redo()
        self.same(bench.claims, (('same', 't', 'b'),))
        bench.tell(('t',))
        self.refused(NothingToRedo, None, bench.redo)
        bench.undo()
        bench.redo()
        self.same(bench.done, 3)

    def test_a_deed_that_changes_nothing(self):
        bench = Bench(BACK)
        bench.tell(('t',))
        bench.refine('s', 0)
        bench.narrow('a', 1, 7)
        self.same(bench.done, 3)
        self.assertTrue(bench.program == BACK)
        self.assertFalse(bench == Bench(BACK))
        bench.undo()
        self.same(bench.done, 2)

    def test_a_block(self):
        bench = self.made()
        bench.undo()
        before = stand(bench)
        with bench.trial() as held:
            self.assertIs(held, bench)
            bench.tell(('s',))
            self.same(bench.done, 3)
        self.assertEqual(stand(bench), before)
        bench.redo()
        self.same(bench.done, 3)
        with bench.trial():
            bench.undo()
            bench.undo()
            bench.undo()
            self.refused(NothingToUndo, None, bench.undo)
        self.same(bench.done, 3)
        self.refused(NothingToRedo, None, bench.redo)
        with bench.trial():
            bench.undo()
            bench.keep()
            bench.undo()
        self.same(bench.done, 1)
        bench.redo()
        bench.redo()
        self.refused(NoTrial, None, bench.keep)

    def test_the_state_is_that_of_when_it_was_entered(self):
        bench = self.made()
        block = bench.trial()
        self.refused(NoTrial, None, bench.keep)
        bench.undo()
        before = stand(bench)
        with block:
            bench.tell(('s',))
        self.assertEqual(stand(bench), before)

    def test_blocks_within_blocks(self):
        for outer, inner, wanted in ((False, False, 3), (False, True, 3), (True, False, 4), (True, True, 5)):
            bench = self.made()
            with bench.trial():
                bench.tell(('s',))
                with bench.trial():
                    bench.tell(('a',))
                    if inner:
                        bench.keep()
                if outer:
                    bench.keep()
            self.same(bench.done, wanted)

    def undone(self):
        """A bench with two deeds that stand and one that can be done again."""
        bench = self.made()
        bench.undo()
        return bench

    def test_one_block_as_a_whole(self):
        bench = self.undone()
        before = stand(bench)
        for keep in (False, True):
            with bench.trial():
                bench.redo()
                bench.undo()
                bench.undo()
                bench.tell(('s',))
                inside = stand(bench)
                if keep:
                    self.assertIsNone(bench.keep())
                self.assertEqual(stand(bench), inside)
            self.refused(NoTrial, None, bench.keep)
            self.assertEqual(stand(bench), inside if keep else before)

    def test_keep_holds_for_what_comes_behind_it_too(self):
        bench = self.undone()
        with bench.trial():
            bench.keep()
            bench.keep()
            bench.tell(('s',))
            bench.undo()
            inside = stand(bench)
        self.assertEqual(stand(bench), inside)
        # What was kept once keeps no later block.
        with bench.trial():
            bench.redo()
        self.assertEqual(stand(bench), inside)

    def test_blocks_within_blocks_as_a_whole(self):
        for outer, inner, late in product((False, True), repeat=3):
            bench = self.undone()
            before = stand(bench)
            with bench.trial():
                if outer and not late:
                    bench.keep()
                bench.undo()
                ahead = stand(bench)
                with bench.trial() as held:
                    self.assertIs(held, bench)
                    bench.tell(('a',))
                    bench.undo()
                    if inner:
                        bench.keep()
                    behind = stand(bench)
                self.assertEqual(stand(bench), behind if inner else ahead)
                bench.see('s', 1, 2)
                last = stand(bench)
                if outer and late:
                    bench.keep()
            self.assertEqual(stand(bench), last if outer else before)
            self.refused(NoTrial, None, bench.keep)

    def test_three_blocks_deep(self):
        for keeps in product((False, True), repeat=3):
            bench = self.made()
            with bench.trial():
                bench.tell(('s',))
                with bench.trial():
                    bench.tell(('a',))
                    with bench.trial():
                        bench.tell(('b',))
                        if keeps[2]:
                            bench.keep()
                    if keeps[1]:
                        bench.keep()
                if keeps[0]:
                    bench.keep()
            wanted = [('s',), ('a',), ('b',)][:(keeps + (False,)).index(False)]
            self.same([bench.done, bench.program.told], [3 + len(wanted), (wanted or [('t',)])[-1]])

    def test_blocks_one_behind_the_other(self):
        bench = self.made()
        with bench.trial():
            with bench.trial():
                bench.keep()
            bench.undo()
            with bench.trial():
                bench.undo()
            self.same(bench.done, 2)
        self.same(bench.done, 3)

    def test_errors_leave_a_block(self):
        bench = self.made()
        before = stand(bench)
        with self.assertRaises(KeyError):
            with bench.trial():
                bench.tell(('s',))
                bench.keep()
                raise KeyError('away')
        self.assertEqual(stand(bench), before)
        self.refused(NoTrial, None, bench.keep)
        with self.assertRaises(Wanted):
            with bench.trial():
                bench.keep()
                bench.take('s')
        self.assertEqual(stand(bench), before)
        # An error that does not leave the block is none for it.
        with bench.trial():
            bench.tell(('s',))
            self.error_of(bench.take, 's')
            bench.keep()
        self.same(bench.done, 4)

    def test_an_error_that_leaves_both_blocks(self):
        for outer, inner in product((False, True), repeat=2):
            bench = self.undone()
            before = stand(bench)
            with self.assertRaises(KeyError) as caught:
                with bench.trial():
                    bench.tell(('s',))
                    if outer:
                        bench.keep()
                    with bench.trial():
                        bench.undo()
                        if inner:
                            bench.keep()
                        raise KeyError('away')
            self.assertEqual(caught.exception.args, ('away',))
            self.assertEqual(stand(bench), before)
            self.refused(NoTrial, None, bench.keep)

    def test_an_error_behind_a_kept_inner_block(self):
        bench = self.undone()
        before = stand(bench)
        with self.assertRaises(Wanted):
            with bench.trial():
                with bench.trial():
                    bench.tell(('a',))
                    bench.keep()
                self.same(bench.done, 3)
                bench.keep()
                bench.take('s')
        self.assertEqual(stand(bench), before)

    def test_an_error_that_ends_at_an_outer_block(self):
        bench = self.made()
        with bench.trial():
            try:
                with bench.trial():
                    bench.tell(('s',))
                    bench.keep()
                    raise KeyError('away')
            except KeyError:
                pass
            self.same(bench.done, 3)
            bench.tell(('a',))
            bench.keep()
        self.same(bench.done, 4)

    def test_tried(self):
        bench = self.made()
        before = stand(bench)
        told = []
        self.assertIs(bench.tried(lambda held: held), bench)
        self.same(bench.tried(lambda held: told.append(held.tell(('s',))) or held.done), 4)
        self.assertEqual(stand(bench), before)
        for keep in (False, 1, 'yes', None, (True,), [True], 0):
            self.same(bench.tried(lambda held: held.tell(('s',)) or held.done, keep=keep), 4)
            self.assertEqual(stand(bench), before)
        self.same(bench.tried(lambda held: held.tell(('s',)) or held.done, keep=True), 4)
        self.same(bench.done, 4)
        self.same(bench.tried(lambda held: held.tell(('a',)) or held.keep() or held.done), 5)
        self.same(bench.done, 5)
        self.assertIsNone(bench.tried(lambda held: None))
        with self.assertRaises(TypeError):
            bench.tried(lambda held: None, True)
        self.refused(NoTrial, None, bench.keep)

    def test_tried_as_a_whole(self):
        def plain(held):
            held.undo()
            held.tell(('s',))
            return stand(held)

        def keeping(held):
            self.assertIsNone(held.keep())
            return plain(held)
        for keep in (True, False, 1, 'yes', None, 0, 1.0, (), [True]):
            for look in (plain, keeping):
                bench = self.undone()
                before = stand(bench)
                told = bench.tried(look, keep=keep)
                self.assertNotEqual(told, before)
                self.assertEqual(stand(bench), told if keep is True or look == keeping else before)
                self.refused(NoTrial, None, bench.keep)

    def test_tried_within_a_block(self):
        for outer, inner in product((False, True), repeat=2):
            bench = self.undone()
            before = stand(bench)
            with bench.trial():
                if outer:
                    bench.keep()
                ahead = stand(bench)
                told = bench.tried(lambda held: held.tell(('s',)) or stand(held), keep=inner)
                self.assertEqual(stand(bench), told if inner else ahead)
                last = stand(bench)
            self.assertEqual(stand(bench), last if outer else before)

    def test_looks_that_raise(self):
        bench = self.made()
        before = stand(bench)

        def look(held):
            held.tell(('s',))
            held.keep()
            raise KeyError('away')
        for keep in (True, False):
            with self.assertRaises(KeyError):
                bench.tried(look, keep=keep)
            self.assertEqual(stand(bench), before)
        self.refused_with(Wanted, 's', bench.tried, lambda held: held.take('s'), keep=True)
        self.assertEqual(stand(bench), before)

    def test_looks_within_looks(self):
        for one in (True, False):
            for other in (True, False):
                bench = self.made()
                self.same(bench.tried(lambda held: (held.tell(('s',)), held.tried(lambda part: part.tell(('a',)), keep=other), held.done)[-1], keep=one),
                          5 if other else 4)
                self.same(bench.done, 3 + one * (1 + other))

    def test_looks_that_keep_an_inner_block(self):
        bench = self.made()

        def look(held):
            with held.trial():
                held.tell(('s',))
                held.keep()
        bench.tried(look)
        self.same(bench.done, 3)
        bench.tried(look, keep=True)
        self.same(bench.done, 4)

    def test_copies(self):
        bench = self.made()
        bench.undo()
        other = bench.copy()
        self.assertEqual(stand(other), stand(bench))
        self.assertTrue(other == bench)
        self.assertIs(other.first, bench.first)
        self.assertIsNot(other, bench)
        other.redo()
        other.tell(('s',))
        self.same([bench.done, other.done], [2, 4])
        bench.redo()
        self.same(bench.program.inputs[0], ('a', 1, 5))
        bench.undo()
        bench.undo()
        bench.undo()
        self.same([bench.done, other.done, other.program.told], [0, 4, ('s',)])
        self.assertFalse(other == bench)

    def test_copies_are_outside_of_all_blocks(self):
        bench = self.made()
        with bench.trial():
            bench.tell(('s',))
            other = bench.copy()
            self.refused(NoTrial, None, other.keep)
            other.tell(('a',))
            with other.trial():
                other.undo()
            bench.keep()
        self.same([bench.done, other.done], [4, 5])
        with bench.trial():
            other = bench.copy()
            other.undo()
        self.same([bench.done, other.done], [4, 3])

    def test_equality(self):
        one, other = self.made(), self.made()
        self.assertTrue(one == other)
        self.assertFalse(one != other)
        other.undo()
        self.assertFalse(one == other)
        other.redo()
        self.assertTrue(one == other)
        other.undo()
        other.narrow('a', 1, 5)
        self.assertTrue(one == other)
        one.undo()
        other.narrow('a', 1, 4)
        other.undo()
        other.undo()
        self.assertTrue(one == other)
        # It is the deeds that count, not where they lead.
        one.see('a', 1, 1)
        other.see('a', 1, 1)
        self.assertTrue(one == other)
        one.undo()
        other.tell(('t',))
        self.assertFalse(one == other)
        self.assertTrue(Bench(BACK) == Bench(Program(BACK.text)))
        self.assertFalse(Bench(BACK) == Bench(SMALL))
        for value in wrong_values() + [BACK, journal(one)]:
            self.assertFalse(one == value)
            self.assertTrue(one != value)

    def test_benches_that_stand_alike_by_other_deeds(self):
        one, other = Bench(BACK), Bench(BACK)
        for low in (1, 2, 3):
            one.narrow('a', low, 7)
        other.narrow('a', 3, 7)
        self.assertTrue(one.program == other.program)
        self.assertFalse(one == other)

    def test_benches_do_not_share(self):
        one, other = Bench(BACK), Bench(BACK)
        one.see('t', 1, 2)
        self.same([other.looks, other.done, one.done], [(), 0, 1])


if __name__ == '__main__':
    unittest.main()
