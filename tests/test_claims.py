"""Section 12: claims."""

import random
import unittest

from roundedsteps.claims import broken_by, is_so, so_often
from roundedsteps.errors import BadClaim, BadInputs
from roundedsteps.programs import Program
from tests import slow
from tests.helping import SMALL_TEXT, Case, some_claims, some_program, wrong_values
from tests.test_runs import turned_about, without_products

PAIR = Program('grid 2 2 3 0\ninput a 0 6\ninput b 1 4\ns = a + b\nt = s - b\nc = choose s 4 a b\ntell t')
HEAD = 'grid 10 2 2 1\ninput a -99 120\ninput b -5 5\n'


def wrong_claims():
    """Values that are no claims about PAIR."""
    return wrong_values() + [
        'sound', ['sound'], ('Sound',), ('sound', 'a'), ('sound', ()), ('within', 't', 0), ('within', 't', 0, 1, 2),
        ('within', 't', 2, 1), ('within', 'x', 0, 1), ('within', 't', True, 1), ('within', 't', 0, True),
        ('within', 't', None, 1), ('within', 't', '0', 1), ('within', 0, 1, 't'), ('within', ('t',), 0, 1),
        ('within', 't', (0, 1)), ('within',), ('atmost', 't'), ('atmost', 't', 'x'), ('atmost', 'x', 't'),
        ('atmost', 't', 5), ('atmost', 't', 'a', 'b'), ('atmost', ['t'], 'a'), ('same', 't', ['a']), ('same', 't'),
        ('same', 't', 'a', 'a'), ('same', 5, 't'), ('plain',), ('plain', 'x'), ('plain', 't', 0), ('plain', 5),
        ('plain', None), ('nearest',), ('nearest', 't', 1), ('nearest', ''), ('off', 't'), ('off', 't', -1),
        ('off', 't', True), ('off', 't', '1'), ('off', 'x', 1), ('off', 't', 1, 2), ('sure', 't'), ('sure', 't', -1),
        ('sure', 't', None), ('sure', 't', False), ('sure', ('t', 1)), ('straight', 't'), ('straight', 'a'),
        ('straight',), ('straight', 'c', 1), ('straight', 'x'), (('sound',),), ('unsure', 't', 1), ('', 't'),
        (PAIR, 't'), ('plain', PAIR), (5, 't'), (None, 't'), ('t', 'plain')]


class Against(Case):
    """All sorts of claims at all inputs of small programs, held against the slow reckoning."""

    def test_all_sorts(self):
        chance = random.Random(41)
        found = set()
        for _ in range(350):
            program = some_program(chance)
            claims = tuple(some_claims(chance, program))
            often = dict.fromkeys(claims, 0)
            for inputs in slow.inputs_of(program):
                so = [slow.is_so(program, claim, inputs) for claim in claims]
                self.same(broken_by(program, claims, inputs), tuple(at for at, told in enumerate(so) if not told))
                for claim, told in zip(claims, so):
                    self.assertIs(is_so(program, claim, inputs), told)
                    often[claim] += told
                    found.add((claim[0], told, slow.walk(program, inputs)[1] is None))
            for claim in claims:
                self.same(so_often(program, claim), often[claim])
        kinds = ('within', 'atmost', 'same', 'plain', 'nearest', 'off', 'sure', 'straight')
        for kind in kinds:
            self.assertLessEqual({(kind, True, True), (kind, False, True), (kind, False, False)}, found)
        self.assertLessEqual({('sound', True, True), ('sound', False, False)}, found)

    def test_turned_about(self):
        chance = random.Random(42)
        for program in without_products(chance, 60):
            other = turned_about(program)
            for claim in some_claims(chance, program):
                also = claim
                if claim[0] == 'within':
                    also = ('within', claim[1], -claim[3], -claim[2])
                elif claim[0] == 'atmost':
                    also = ('atmost', claim[2], claim[1])
                self.assertEqual(so_often(program, claim), so_often(other, also))


class Sorts(Case):
    """Each sort by itself."""

    def program(self, *steps):
        return Program(HEAD + '\n'.join(steps))

    def told(self, program, inputs, *claims):
        return [is_so(program, claim, inputs) for claim in claims]

    def test_a_run_that_does_not_tell(self):
        program = self.program('s = a + b', 'c = choose a b 1 2', 't = s / b', 'tell a')
        claims = (('sound',), ('within', 'a', -99, 120), ('atmost', 'a', 'a'), ('same', 'a', 'a'), ('plain', 'a'),
                  ('nearest', 'a'), ('off', 'a', 99), ('sure', 'a', 999), ('straight', 'c'))
        self.same(broken_by(program, claims, (5, 0)), tuple(range(9)))
        self.same(broken_by(program, claims, (5, 1)), ())
        self.same(so_often(program, ('sound',)), so_often(program, ('within', 'a', -99, 120)))

    def test_sound(self):
        program = Program('grid 10 2 2 0\ninput a -9 9\ns = 990 / a\nt = s * s\ntell a')
        # 0 is nought; 990 / 9 is 110 still, and its square is over.
        self.same(so_often(program, ('sound',)), 0)
        program = Program('grid 10 2 2 0\ninput a -9 9\ns = 99 / a\nt = s * s\ntell a')
        self.same(so_often(program, ('sound',)), 18)

    def test_within(self):
        program = self.program('s = a * 10', 'tell s')
        self.same(self.told(program, (12, 0), ('within', 's', 12, 12), ('within', 's', 11, 13), ('within', 's', 13, 99),
                            ('within', 's', -99, 11), ('within', 'a', 12, 12), ('within', 'b', 1, 2)),
                  [True, True, False, False, True, False])
        self.same(is_so(program, ('within', 's', -10 ** 1000, 10 ** 1000), (12, 0)), True)

    def test_atmost_and_same(self):
        program = self.program('s = a + 0', 'tell s')
        self.same(self.told(program, (3, 4), ('atmost', 'a', 'b'), ('atmost', 'b', 'a'), ('same', 'a', 'b'),
                            ('same', 'a', 's'), ('atmost', 'a', 's'), ('atmost', 's', 'a')),
                  [True, False, False, True, True, True])

    def test_plain(self):
        program = self.program('s = a + 95', 't = s - 95', 'u = a / 30', 'v = least u a', 'w = a / 30 way up', 'tell s')
        self.same(self.told(program, (6, 0), ('plain', 's'), ('plain', 't'), ('plain', 'u'), ('plain', 'v'),
                            ('plain', 'a'), ('plain', 'w')), [False, True, True, True, True, True])
        self.same(self.told(program, (5, 0), ('plain', 's'), ('plain', 't'), ('plain', 'u'), ('plain', 'w')),
                  [True, True, False, False])

    def test_nearest(self):
        program = self.program('s = a + 95', 't = s - 95', 'u = a / 30 way up', 'm = most t a', 'tell s')
        # 101 becomes 100, so t is 5; it ought to be 6.
        self.same(self.told(program, (6, 0), ('nearest', 's'), ('nearest', 't'), ('nearest', 'u'), ('nearest', 'm'),
                            ('nearest', 'a')), [True, False, True, True, True])
        self.same(self.told(program, (10, 0), ('nearest', 'u'), ('nearest', 's')), [False, True])

    def test_nearest_takes_no_figures_more(self):
        program = self.program('s = a + 95 keep 1', 't = a + 5 keep 1', 'tell s')
        self.same(self.told(program, (6, 0), ('nearest', 's'), ('nearest', 't'), ('plain', 's')), [False, True, True])

    def test_nearest_over(self):
        program = self.program('s = 9900 + a keep 1', 'tell s')
        self.same(self.told(program, (49, 0), ('nearest', 's'), ('sound',), ('off', 's', 1)), [False, True, True])
        self.same(self.told(program, (50, 0), ('nearest', 's'), ('sound',), ('off', 's', 0)), [False, True, True])
        self.same(self.told(program, (4, 0), ('nearest', 's'), ('off', 's', 4), ('off', 's', 3)), [True, True, False])
        self.same(self.told(program, (0, 0), ('nearest', 's'), ('off', 's', 0)), [True, True])

    def test_off(self):
        program = self.program('s = a / 30', 't = 2 * s', 'tell s')
        # 10 / 30 is 10 / 3 units, so 3; at 5 it is 5 / 3, so 2.
        self.same(self.told(program, (10, 0), ('off', 's', 0), ('off', 's', 1), ('off', 'a', 0)), [False, True, True])
        program = self.program('s = a + 95 way up', 't = s - a', 'tell s')
        self.same(self.told(program, (6, 0), ('off', 's', 8), ('off', 's', 9), ('off', 't', 8), ('off', 't', 9)),
                  [False, True, True, True])

    def test_sure(self):
        program = self.program('s = a + 95', 't = s - 100', 'tell s')
        # 95 + 6 becomes 100, so t is 0; it ought to be 1: not wrong. At 4 it is -1, as it ought to be.
        self.same(self.told(program, (6, 0), ('sure', 't', 0), ('sure', 's', 0), ('sure', 's', 100)), [True, True, True])
        self.same(self.told(program, (4, 0), ('sure', 't', 0), ('sure', 'a', 0)), [True, True])
        program = self.program('s = a + 95 way up', 't = s - 110', 'v = 8 + t', 'tell s')
        # 101 becomes 110, so t is 0 and v is 8, exactly they are -9 and -1.
        self.same(self.told(program, (6, 0), ('sure', 't', 0), ('sure', 'v', 7), ('sure', 'v', 8), ('sure', 'v', 9)),
                  [True, False, True, True])

    def test_sure_of_nought(self):
        program = self.program('s = b / 30 way up', 'tell s')
        # 1 / 30 is a third of a unit, so 1; 0 stays, and -1 / 30 becomes 0.
        self.same(self.told(program, (0, 1), ('sure', 's', 0), ('plain', 's')), [True, False])
        self.same(self.told(program, (0, 0), ('sure', 's', 0), ('plain', 's')), [True, True])
        self.same(self.told(program, (0, -1), ('sure', 's', 0), ('plain', 's')), [True, False])
        program = self.program('s = a + 95', 't = s - 95', 'd = t - a', 'tell d')
        # Exactly d is 0; at 6 it is -1.
        self.same(self.told(program, (6, 0), ('sure', 'd', 0), ('sure', 'd', 1)), [False, True])

    def test_straight(self):
        program = self.program('s = a + 95', 'c = choose 100 s 1 2', 'd = choose s 100 1 2', 'e = choose b 0 1 2',
                               'tell c')
        self.same(self.told(program, (6, 0), ('straight', 'c'), ('straight', 'd'), ('straight', 'e')),
                  [False, True, True])
        self.same(self.told(program, (4, 0), ('straight', 'c'), ('straight', 'd')), [True, True])

    def test_the_exact_run_does_not_come(self):
        program = self.program('c = choose a b 1 2', 's = a + 95 way up', 't = 95 + 6', 'u = s - t', 'v = 1 / u',
                               'd = choose a b 1 2', 'tell d')
        claims = tuple((kind, name, *told) for kind, told in (('nearest', ()), ('off', (999,)), ('sure', (999,)))
                       for name in 'uvd') + (('straight', 'c'), ('straight', 'd'), ('plain', 'u'), ('same', 'a', 'a'))
        self.same(self.told(program, (6, 0), ('sound',), *claims),
                  [True, False, False, False, True, False, False, True, False, False, True, False, True, True])

    def test_choose_that_is_even(self):
        program = self.program('c = choose a b 1 2', 'tell c')
        self.same(self.told(program, (3, 3), ('within', 'c', 2, 2), ('straight', 'c')), [True, True])


class Refused(Case):
    """What is no claim, and wrong inputs."""

    def test_claims(self):
        for value in wrong_claims():
            self.refused(BadClaim, value, is_so, PAIR, value, None)
            self.refused(BadClaim, value, so_often, PAIR, value)

    def test_claims_among_others(self):
        for value in wrong_claims():
            self.refused(BadClaim, value, broken_by, PAIR, (('sound',), value, ('plain', 'x')), None)
            if not isinstance(value, tuple):
                self.refused(BadClaim, value, broken_by, PAIR, value, None)
        claims = [('sound',)]
        self.refused(BadClaim, claims, broken_by, PAIR, claims, (3, 2))
        self.refused_with(BadClaim, 'sound', broken_by, PAIR, ('sound',), (3, 2))
        self.same(broken_by(PAIR, (), (3, 2)), ())

    def test_inputs(self):
        for value in wrong_values() + [(3,), (3, 2, 1), [3, 2], (3, 0), (5, 2), (True, 1), (7, 1), (3, (2,))]:
            self.refused(BadInputs, value, is_so, PAIR, ('sound',), value)
            self.refused(BadInputs, value, broken_by, PAIR, (), value)

    def test_right_claims(self):
        for claim in (('sound',), ('within', 't', 0, 0), ('within', 'a', -5, 10 ** 100), ('atmost', 'a', 'a'),
                      ('same', 'a', 't'), ('plain', 'a'), ('nearest', 'c'), ('off', 't', 0), ('sure', 'a', 10 ** 100),
                      ('straight', 'c')):
            self.assertIn(is_so(PAIR, claim, (3, 2)), (True, False))

    def test_named_arguments(self):
        self.same(is_so(program=PAIR, claim=('same', 't', 'a'), inputs=(3, 2)), False)
        self.same(broken_by(program=PAIR, claims=(('same', 't', 'a'),), inputs=(3, 2)), (0,))
        self.same(so_often(program=PAIR, claim=('same', 't', 'a')), 16)

    def test_a_program_without_steps(self):
        program = Program('grid 2 3 2 0\ninput a 0 7\ntell a')
        self.same([so_often(program, claim) for claim in (('sound',), ('nearest', 'a'), ('within', 'a', 2, 5))], [8, 8, 4])
        self.same(so_often(Program(SMALL_TEXT), ('same', 't', 'a')), 64 - 12)


if __name__ == '__main__':
    unittest.main()
