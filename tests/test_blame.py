"""Section 24: blame."""

import random
import unittest
from fractions import Fraction
from itertools import combinations

from roundedsteps.blame import blamed, cure, holds_mixed, shares, shows_cure
from roundedsteps.claims import is_so
from roundedsteps.errors import BadBox, BadClaim, BadInputs, BadLot, ManyInputs, NoWorth
from roundedsteps.programs import Program
from roundedsteps.runs import exact_run, mixed_run, run
from tests import slow, slow_cuts
from tests.helping import Case, some_box, some_claims, some_program, some_twisted, variants, wrong_values
from tests.test_claims import wrong_claims
from tests.test_figures import mending
from tests.test_looks import strictly

BACK = Program('grid 2 3 4 0\ninput a 1 7\ninput b 1 7\ns = a + b\nt = s - a\ntell t')
WISH = ('same', 't', 'b')
WHOLE = ((1, 7), (1, 7))
KINDS = ('sound', 'within', 'atmost', 'same', 'off', 'sure', 'straight')


def lots_of(program):
    """All lots, in sequence."""
    names = sorted(slow.rounding_steps(program))
    return [lot for many in range(len(names) + 1) for lot in combinations(names, many)]


def holds(program, claim, lot, inputs):
    """Whether a claim holds mixed, by the words of the section."""
    known, end = slow.walk(program, inputs, lot)
    exact, _ = slow.walk(program, inputs, slow.rounding_steps(program))
    if end is not None:
        return False
    kind, told = claim[0], claim[1:]
    if kind == 'sound':
        return True
    worth = known[told[0]]
    if kind == 'within':
        return told[1] <= worth <= told[2]
    if kind == 'atmost':
        return worth <= known[told[1]]
    if kind == 'same':
        return worth == known[told[1]]
    if told[0] not in exact:
        return False
    right = exact[told[0]]
    if kind == 'off':
        return abs(worth - right) <= told[1]
    if kind == 'sure':
        return abs(worth) <= told[1] or (worth > 0) == (right > 0) and (worth < 0) == (right < 0)
    step = next(step for step in program.steps if step[0] == told[0])
    sides = [[worths[part] if isinstance(part, str) else part for part in step[2][:2]] for worths in (known, exact)]
    return (sides[0][0] < sides[0][1]) == (sides[1][0] < sides[1][1])


def shows(program, claim, box, value):
    """Whether any value is what cure tells."""
    if type(value) is not tuple or not value or type(value[-1]) is not tuple:
        return False
    lots, rows = lots_of(program), slow.inputs_of(program, box)
    cures = [lot for lot in lots if all(holds(program, claim, lot, row) for row in rows)]
    wanted = ('lot', cures[0]) if cures else ('none',)
    ahead = lots[:lots.index(cures[0])] if cures else lots
    if not strictly(value[:-1], wanted) or len(value[-1]) != len(ahead):
        return False
    return all(slow_cuts.are_inputs(program, row, box) and not holds(program, claim, lot, row) for row, lot in zip(value[-1], ahead))


def some_mixed(chance, most_numbers=4):
    """A program of at most five rounding steps, and a claim that can hold mixed."""
    while True:
        if chance.random() < 0.3:
            program = some_twisted(chance)
            return program, chance.choice([('straight', 's3'), ('straight', 's3'), ('sure', 's2', 0), ('off', 's2', 1), ('atmost', 's2', 's0')])
        if chance.random() < 0.3:
            program, claim, _ = mending(chance)
            if claim[0] in KINDS:
                return program, claim
        program = some_program(chance, most_steps=7, most_numbers=most_numbers)
        if 0 < len(slow.rounding_steps(program)) <= 5 or chance.random() < 0.1:
            return program, chance.choice([claim for claim in some_claims(chance, program) if claim[0] in KINDS])


class Against(Case):
    """Held against all lots, and all inputs."""

    def test_holds_mixed(self):
        chance = random.Random(171)
        found = set()
        for _ in range(600):
            program, claim = some_mixed(chance)
            for row in slow.inputs_of(program)[::7]:
                for lot in lots_of(program):
                    so = holds(program, claim, lot, row)
                    self.assertIs(holds_mixed(program, claim, lot, row), so)
                    found.add((claim[0], so, mixed_run(program, row, lot)[0]))
                self.assertIs(holds_mixed(program, claim, (), row), is_so(program, claim, row))
        for kind in KINDS[1:]:
            self.assertLessEqual({(kind, True, 'tells'), (kind, False, 'tells')}, found)
        self.assertLessEqual({('within', False, 'over'), ('within', False, 'nought'), ('off', False, 'over')}, found)

    def test_blamed(self):
        chance = random.Random(172)
        counts = {'none': 0, 'as it stands': 0, 'one': 0, 'several': 0}
        for _ in range(600):
            program, claim = some_mixed(chance)
            for row in slow.inputs_of(program)[::5]:
                lots = [lot for lot in lots_of(program) if holds(program, claim, lot, row)]
                least = tuple(lot for lot in lots if not any(set(other) < set(lot) for other in lots))
                counts['none' if not least else 'as it stands' if least == ((),) else 'one' if len(least) == 1 else 'several'] += 1
                self.same(blamed(program, claim, row), least)
        self.assertGreater(min(counts.values()), 20, counts)

    def test_cure(self):
        chance = random.Random(173)
        words, lengths = {'lot': 0, 'none': 0}, set()
        for _ in range(200):
            program, claim = some_mixed(chance, most_numbers=3)
            box = some_box(chance, program)
            value = cure(program, claim, box)
            words[value[0]] += 1
            lengths.add(len(value[-1]))
            self.assertTrue(shows(program, claim, box, value))
            for part in variants(chance, value, 8):
                self.assertIs(shows_cure(program, claim, box, part), shows(program, claim, box, part))
        self.assertGreater(min(words.values()), 30)
        self.assertGreater(len(lengths), 8)

    def test_shares(self):
        chance = random.Random(174)
        counts = {'told': 0, 'over': 0, 'nought': 0}
        for _ in range(250):
            program = some_program(chance)
            names = slow.rounding_steps(program)
            for row in slow.inputs_of(program)[::6]:
                walks = [slow.walk(program, row, names[:many]) for many in range(len(names) + 1)]
                ends = [end for _, end in walks if end is not None]
                if ends:
                    counts[ends[0][0]] += 1
                    self.refused_with(NoWorth, ends[0], shares, program, row)
                    continue
                worths = [known[program.told[0]] for known, _ in walks]
                counts['told'] += 1
                found = shares(program, row)
                self.same(found, tuple((name, slow.pair_of(one - other)) for name, one, other in zip(names, worths, worths[1:])))
                total = sum((Fraction(*part) for _, part in found), Fraction(0))
                right = exact_run(program, row)[1][0]
                self.assertEqual(total, run(program, row)[1][0] - Fraction(*right))
        self.assertGreater(min(counts.values()), 20)


class Edges(Case):
    """What the section names."""

    def test_the_example(self):
        self.same([blamed(BACK, WISH, (7, 2)), blamed(BACK, WISH, (1, 2)), blamed(BACK, ('within', 't', 5, 5), (7, 2))], [(('s',),), ((),), ()])
        self.same(shares(BACK, (7, 2)), (('s', (-1, 1)), ('t', (0, 1))))
        self.same(cure(BACK, WISH, WHOLE)[:2], ('lot', ('s',)))
        reasons = ((7, 2),)
        self.same(shows_cure(BACK, WISH, WHOLE, ('lot', ('s',), reasons)), True)
        for wrong in (('lot', ('s',), ((1, 2),)), ('lot', ('s',), ()), ('lot', ('s',), reasons * 2), ('lot', ('t',), reasons * 2),
                      ('lot', ('s', 't'), reasons * 3), ('lot', ['s'], reasons), ('lot', ('s',), [(7, 2)]), ('lot', 's', reasons),
                      ('none', reasons), ('none', reasons * 4), ('lot', ('s',)), ('cut', ('s',), reasons), None, reasons,
                      ('lot', ('s',), ((7, True),)), ('lot', ('s',), ((7, 2), (7, 2)))):
            self.same(shows_cure(BACK, WISH, WHOLE, wrong), False)
        self.same(cure(BACK, WISH, ((1, 3), (1, 4))), ('lot', (), ()))
        self.same(shows_cure(BACK, WISH, ((1, 3), (1, 4)), ('lot', ('s',), reasons)), False)
        never = ('within', 't', 8, 9)
        told = cure(BACK, never, WHOLE)
        self.same([told[0], len(told[1])], ['none', 4])
        self.same(shows_cure(BACK, never, WHOLE, ('none', ((1, 1), (2, 2), (3, 3), (4, 4)))), True)
        self.same(shows_cure(BACK, never, ((1, 1), (1, 1)), ('none', ((1, 1), (1, 1), (1, 1), (2, 2)))), False)
        self.same(shows_cure(BACK, never, WHOLE, ('none', ((1, 1), (2, 2), (3, 3)))), False)

    def test_with_all_steps_it_is_exact(self):
        for row in slow.inputs_of(BACK):
            self.same(holds_mixed(BACK, ('off', 't', 0), ('s', 't'), row), True)
            self.same(holds_mixed(BACK, WISH, ('s', 't'), row), True)

    def test_fractions(self):
        thirds = Program('grid 10 2 2 1\ninput a 10 20\nq = a / 30\np = q * 30\ntell p')
        # 10 tenths by 30 tenths are 10 thirds of a tenth, 3 if this is rounded; three times that is 9.
        self.same([holds_mixed(thirds, ('same', 'p', 'a'), lot, (10,)) for lot in ((), ('p',), ('q',), ('p', 'q'))], [False, False, True, True])
        self.same([holds_mixed(thirds, ('within', 'q', low, high), ('q',), (20,)) for low, high in ((6, 6), (6, 7), (7, 7))],
                  [False, True, False])
        self.same([holds_mixed(thirds, ('off', 'q', 0), lot, (10,)) for lot in ((), ('q',))], [False, True])
        self.same(blamed(thirds, ('off', 'q', 0), (10,)), (('q',),))
        self.same(shares(thirds, (10,)), (('q', (-1, 1)), ('p', (0, 1))))

    def test_lots_in_sequence(self):
        # b is told ahead of a: lots ascend, whatever the sequence of the steps is.
        program = Program('grid 2 2 4 0\ninput x 3 3\nb = x + 2\na = x + 2\nm = least a b\ntell m')
        self.same(blamed(program, ('within', 'm', 5, 5), (3,)), (('a', 'b'),))
        self.same(blamed(program, ('within', 'm', 4, 4), (3,)), ((),))
        either = Program('grid 2 2 4 0\ninput x 3 3\nb = x + 2\na = x + 2\nm = most a b\ntell m')
        self.same(blamed(either, ('within', 'm', 5, 5), (3,)), (('a',), ('b',)))
        self.same(cure(either, ('within', 'm', 5, 5), ((3, 3),)), ('lot', ('a',), ((3,),)))
        self.same([name for name, _ in shares(either, (3,))], ['b', 'a'])
        self.same(shares(either, (3,)), (('b', (-1, 1)), ('a', (0, 1))))
        self.same(shares(program, (3,)), (('b', (0, 1)), ('a', (-1, 1))))

    def test_a_lot_with_more_may_not_hold(self):
        program = Program('grid 2 2 4 0\ninput x 3 3\ns = x + 2\nt = s + 1\ntell t')
        # 5 becomes 4, and 4 + 1 becomes 4; with s exact 6, with t 5, with both 6.
        self.same(blamed(program, ('within', 't', 5, 5), (3,)), (('t',),))
        self.same(blamed(program, ('within', 't', 6, 6), (3,)), (('s',),))
        self.same(blamed(program, ('within', 't', 4, 5), (3,)), ((),))
        self.same(cure(program, ('within', 't', 5, 5), ((3, 3),)), ('lot', ('t',), ((3,), (3,))))

    def test_where_the_exact_run_does_not_come(self):
        # Exactly s is 9, and d is 0; rounded s is 8, and d is -1.
        lines = ['k = x + 0', 's = x + 2', 'e = s - 7', 'd = e - 2', 'q = 1 / d', 'h = choose q 0 x k', 'tell h']
        program = Program('\n'.join(['grid 2 3 4 0', 'input x 7 7'] + lines))
        self.same(exact_run(program, (7,)), ('nought', 'q'))
        for claim, so in ((('off', 'q', 99), False), (('sure', 'q', 99), False), (('straight', 'h'), False), (('off', 's', 1), True),
                          (('sure', 'd', 2), True), (('within', 'q', -9, 9), True), (('sound',), True)):
            self.same(holds_mixed(program, claim, (), (7,)), so)
        self.same(blamed(program, ('sound',), (7,)), ((),))
        self.same(blamed(program, ('off', 'h', 9), (7,)), ())
        self.refused_with(NoWorth, ('nought', 'q'), shares, program, (7,))

    def test_steps_that_round_nothing_have_shares_too(self):
        self.same(shares(BACK, (1, 2)), (('s', (0, 1)), ('t', (0, 1))))
        self.same(shares(Program('grid 2 3 4 0\ninput a 1 7\nm = most a 2\ntell m a'), (1,)), ())
        self.same(cure(Program('grid 2 3 4 0\ninput a 1 7\ntell a'), ('within', 'a', 1, 2), ((1, 7),))[0], 'none')

    def test_many_inputs(self):
        program = Program('grid 2 4 6 0\ninput a 0 40\ninput b 0 40\ns = a + b\ntell s')
        # From 0 to 16 all integers, then to 32 by twos, to 40 by fours.
        for box, many in ((((0, 19 - 3), (0, 32)), 17 * 25), (((0, 40), (0, 14)), 27 * 15), (((0, 14), (0, 40)), 15 * 27)):
            self.refused_with(ManyInputs, many, cure, program, ('sound',), box)
            self.refused_with(ManyInputs, many, shows_cure, program, ('sound',), box, None)
        self.same(cure(program, ('sound',), ((0, 15), (0, 32))), ('lot', (), ()))
        self.same(cure(program, ('sound',), ((0, 32), (0, 15)))[0], 'lot')
        line = Program('grid 10 3 0 0\ninput a 0 999\ns = a - 1\ntell s')
        self.same(cure(line, ('sound',), ((1, 400),)), ('lot', (), ()))
        self.refused_with(ManyInputs, 401, cure, line, ('sound',), ((0, 400),))

    def test_values_of_any_kind(self):
        for value in wrong_values():
            self.same(shows_cure(BACK, WISH, WHOLE, value), False)
            self.same(shows_cure(BACK, WISH, WHOLE, ('none', value)), False)
            self.same(shows_cure(BACK, WISH, WHOLE, ('lot', ('s',), value)), False)
            self.same(shows_cure(BACK, WISH, WHOLE, ('lot', ('s',), (value,))), False)
            self.same(shows_cure(BACK, WISH, WHOLE, ('lot', value, ((7, 2),))), False)
            self.same(shows_cure(BACK, WISH, WHOLE, (value, ('s',), ((7, 2),))), False)


class Refused(Case):
    """Wrong arguments, the first error first."""

    def test_claims(self):
        for value in wrong_claims() + [('nearest', 't'), ('plain', 't'), ('plain', 'a'), ('nearest', 's')]:
            self.refused(BadClaim, value, holds_mixed, BACK, value, None, None)
            self.refused(BadClaim, value, blamed, BACK, value, None)
            self.refused(BadClaim, value, cure, BACK, value, None)
            self.refused(BadClaim, value, shows_cure, BACK, value, None, None)

    def test_lots(self):
        for value in [value for value in wrong_values() if value != ()] + [
                ['s'], ('t', 's'), ('s', 's'), ('u',), ('a',), 's', ('s', None), (('s',),), ('s', True), 0]:
            self.refused(BadLot, value, holds_mixed, BACK, WISH, value, None)

    def test_inputs(self):
        for value in wrong_values() + [(1,), (1, 2, 3), (0, 1), (1, 8), (True, 1), [1, 2], ('1', 2), (1, None), ((1,), 2), 7]:
            self.refused(BadInputs, value, holds_mixed, BACK, WISH, ('s',), value)
            self.refused(BadInputs, value, blamed, BACK, WISH, value)
            self.refused(BadInputs, value, shares, BACK, value)

    def test_boxes(self):
        for value in wrong_values() + [((1, 7),), ((1, 7), (0, 7)), ((1, 7), (2, 1)), [(1, 7), (1, 7)], ((1, 7), [1, 7]), ((1, 7), (1, True))]:
            self.refused(BadBox, value, cure, BACK, WISH, value)
            self.refused(BadBox, value, shows_cure, BACK, WISH, value, None)

    def test_named_arguments(self):
        self.same(holds_mixed(program=BACK, claim=WISH, lot=('t',), inputs=(7, 2)), False)
        self.same(blamed(program=BACK, claim=WISH, inputs=(7, 2)), (('s',),))
        told = cure(program=BACK, claim=WISH, box=WHOLE)
        self.same(shows_cure(program=BACK, claim=WISH, box=WHOLE, value=told), True)
        self.same(shares(program=BACK, inputs=(1, 2))[0], ('s', (0, 1)))


if __name__ == '__main__':
    unittest.main()
