"""Section 13: what a box decides."""

import random
import unittest

from roundedsteps.boxes import whole_box
from roundedsteps.deciding import decided, first_open
from roundedsteps.errors import BadBox, BadClaim
from roundedsteps.programs import Program
from tests import slow, slow_cuts
from tests.helping import Case, some_box, some_claims, some_program, some_twisted, wrong_values
from tests.test_boxes import BACK, WHOLE, wrong_boxes
from tests.test_runs import turned_about, without_products

PAIR = Program('grid 2 2 3 0\ninput a 0 6\ninput b 1 4\ns = a + b\nt = s - b\nc = choose s 4 a b\ntell t')
PAIR_BOX = ((0, 6), (1, 4))


class Against(Case):
    """All claims, on all sorts of boxes, held against the table's words, and against all inputs."""

    def test_the_table(self):
        chance = random.Random(51)
        applied, alone = set(), set()
        for number in range(1500):
            program = some_twisted(chance) if number % 3 == 0 else some_program(chance, most_steps=5)
            box = some_box(chance, program)
            name = chance.choice(program.names)
            ends = slow_cuts.Ruled(program, ('sound',), box).ends(name) or (0, 0)
            near = [('within', name, int(ends[1]) + 1, int(ends[1]) + 9), ('within', name, int(ends[0]) - 9, int(ends[0]) - 1)]
            if 's2' in program:
                near += [('sure', 's2', number) for number in (0, 1, 2)]
            for claim in some_claims(chance, program) + near:
                self.same(decided(program, claim, box), slow_cuts.decided(program, claim, box))
                if slow_cuts.is_point(box):
                    continue
                ruled = slow_cuts.Ruled(program, claim, box)
                if ruled.is_open():
                    applied.add((claim[0], 'no range'))
                    continue
                so, against = ruled.table()
                found = [(claim[0], 'so', at) for at, told in enumerate(so) if told]
                found += [(claim[0], 'not', at) for at, told in enumerate(against) if told]
                applied.update(found or [(claim[0], 'open')])
                alone.update(found if len(found) == 1 else [])
        rows = {'sound': (1, 0), 'within': (2, 4), 'atmost': (3, 2), 'same': (2, 3), 'plain': (2, 0), 'nearest': (2, 2),
                'off': (2, 2), 'sure': (4, 2), 'straight': (2, 1)}
        for kind, (so, against) in rows.items():
            wanted = {(kind, 'so', at) for at in range(so)} | {(kind, 'not', at) for at in range(against)}
            wanted |= {(kind, 'no range')} | ({(kind, 'open')} if kind != 'sound' else set())
            self.assertEqual(wanted - applied, set())
            # What is one number has its line, so it is always alike, too.
            self.assertEqual({row for row in wanted if row[1] in ('so', 'not')} - alone - {('same', 'so', 1)}, set())

    def test_all_inputs(self):
        chance = random.Random(52)
        for _ in range(400):
            program = some_program(chance)
            box = some_box(chance, program)
            rows = slow.inputs_of(program, box)
            for claim in some_claims(chance, program):
                told = decided(program, claim, box)
                if told != 'open':
                    self.assertEqual({slow.is_so(program, claim, row) for row in rows}, {told == 'so'})

    def test_boxes_within(self):
        chance = random.Random(53)
        often = 0
        for _ in range(800):
            program = some_program(chance)
            box = some_box(chance, program)
            within = some_box(chance, program.narrowed(box))
            for claim in some_claims(chance, program):
                told = decided(program, claim, box)
                if told != 'open':
                    often += 1
                    self.assertEqual(decided(program, claim, within), told)
        self.assertGreater(often, 1500)

    def test_points(self):
        chance = random.Random(54)
        for _ in range(100):
            program = some_program(chance)
            inputs = chance.choice(slow.inputs_of(program))
            box = tuple((number, number) for number in inputs)
            for claim in some_claims(chance, program):
                self.same(decided(program, claim, box), 'so' if slow.is_so(program, claim, inputs) else 'not')

    def test_first_open(self):
        chance = random.Random(55)
        for _ in range(200):
            program = some_program(chance)
            box = some_box(chance, program)
            claims = tuple(some_claims(chance, program))[::chance.choice([1, -1])]
            told = [decided(program, claim, box) for claim in claims]
            self.same(first_open(program, claims, box), told.index('open') if 'open' in told else None)

    def test_turned_about(self):
        chance = random.Random(56)
        for program in without_products(chance, 80):
            other = turned_about(program)
            box = some_box(chance, program)
            also = tuple((-high, -low) for low, high in box)
            for claim in some_claims(chance, program):
                if claim[0] == 'within':
                    turned = ('within', claim[1], -claim[3], -claim[2])
                elif claim[0] == 'atmost':
                    turned = ('atmost', claim[2], claim[1])
                elif claim[0] == 'straight':
                    continue
                else:
                    turned = claim
                self.assertEqual(decided(program, claim, box), decided(other, turned, also))

    def test_names_called_otherwise(self):
        chance = random.Random(57)
        for _ in range(60):
            program = some_program(chance)
            text = program.text
            for number in range(len(program)):
                text = text.replace(f's{number}', f'step{number}')
            box = some_box(chance, program)
            for claim in some_claims(chance, program):
                also = tuple(f'step{part[1:]}' if isinstance(part, str) and part in program and part[0] == 's' else part
                             for part in claim)
                self.assertEqual(decided(program, claim, box), decided(Program(text), also, box))


class Rules(Case):
    """Each alternative by itself."""

    def told(self, claim, *steps, grid='2 3 4 0', inputs=('a 8 14', 'b 8 14'), box=None):
        """What the whole box, or another one, decides of the claim behind these steps."""
        program = Program('\n'.join([f'grid {grid}', *[f'input {row}' for row in inputs], *steps, 'tell a']))
        return decided(program, claim, box or whole_box(program))

    def tens(self, claims, *steps, box):
        """What a box decides of some claims of numbers of two decimal figures: from 100 on they are tens."""
        told = [self.told(claim, *steps, grid='10 2 2 0', inputs=('a 80 120', 'b -9 9'), box=box) for claim in claims]
        return ' '.join(told)

    def at_hundred(self, kind, *numbers, name='s', low=0, high=0, steps=()):
        """What is decided of claims of this kind where a is 100, and b is from low to high."""
        claims = [(kind, name, number) for number in numbers] or [(kind, name)]
        return self.tens(claims, *steps, box=((100, 100), (low, high)))

    def test_a_step_without_a_range(self):
        for claim in (('sound',), ('within', 'a', 0, 99), ('same', 'a', 'a'), ('plain', 'a'), ('nearest', 'a')):
            self.same(self.told(claim, 'd = a - b', 'e = 8 / d'), 'open')
            self.same(self.told(claim, 'd = a - b', 'e = 8 / d', box=((8, 8), (10, 14))), 'so')
            self.same(self.told(claim, 'd = a * a', 'e = 8 / d'), 'open')
        self.same(self.told(('sound',), 'd = a + b'), 'so')

    def test_a_step_without_an_exact_range(self):
        # 101 to 109 become 110, 105 becomes 100: d is 10, but exactly from -4 to 4.
        steps = ('s = a + b way up', 'k = 45 + 60', 'd = s - k', 'e = 80 / d', 'c = choose a b a b')
        box = ((100, 100), (1, 9))
        open_ones = [('nearest', 'e'), ('off', 'e', 999), ('sure', 'e', 999), ('nearest', 'c'), ('straight', 'c'),
                     ('off', 'c', 99), ('sure', 'c', 99)]
        self.same(self.tens(open_ones, *steps, box=box), ' '.join(['open'] * 7))
        so = [('nearest', 'a'), ('off', 'd', 99), ('sure', 'd', 99), ('sound',), ('within', 'c', 0, 99),
              ('within', 'e', 8, 8), ('plain', 'c')]
        self.same(self.tens(so, *steps, box=box), ' '.join(['so'] * 7))

    def test_within(self):
        self.same([self.told(('within', 's', low, high), 's = a + b') for low, high in
                   ((16, 28), (0, 99), (17, 28), (16, 27), (0, 15), (29, 40), (0, 16), (28, 40))],
                  ['so', 'so', 'open', 'open', 'not', 'not', 'open', 'open'])
        # t is b by its line; by its range it goes from 2 to 20.
        self.same([self.told(('within', 't', low, high), 'd = a - b', 't = a - d') for low, high in
                   ((8, 14), (9, 14), (8, 13), (0, 7), (15, 99), (2, 20), (0, 1), (21, 22))],
                  ['so', 'open', 'open', 'not', 'not', 'so', 'not', 'not'])

    def test_atmost(self):
        steps = ('s = a + b', 'u = b + a', 'd = a - b', 'm = most a d', 'l = a + 0')
        pairs = [('a', 's'), ('s', 'a'), ('s', 'u'), ('a', 'b'), ('a', 'm'), ('d', 'a'), ('a', 'd'), ('l', 'a'), ('a', 'a')]
        self.same([self.told(('atmost', *pair), *steps) for pair in pairs],
                  ['so', 'not', 'so', 'open', 'so', 'so', 'not', 'so', 'so'])
        self.same(self.told(('atmost', 'a', 'b'), box=((8, 10), (10, 14))), 'so')
        self.same(self.told(('atmost', 'a', 'b'), box=((12, 14), (8, 10))), 'not')
        self.same(self.told(('atmost', 'a', 'b'), box=((10, 14), (8, 10))), 'open')
        # x is a and 2: their ranges have much in common.
        self.same([self.told(('atmost', *pair), 'x = a + 2', box=((8, 12), (8, 8))) for pair in (('a', 'x'), ('x', 'a'))],
                  ['so', 'not'])

    def test_same(self):
        steps = ('s = a + b', 'u = b + a', 'd = a - b', 'l = a + 0')
        pairs = [('s', 'u'), ('a', 'b'), ('a', 'l'), ('a', 'd'), ('s', 's'), ('a', 's'), ('d', 's')]
        self.same([self.told(('same', *pair), *steps) for pair in pairs],
                  ['so', 'open', 'so', 'not', 'so', 'not', 'not'])
        self.same(self.told(('same', 'a', 'x'), 'x = a + 2', box=((8, 12), (8, 8))), 'not')
        # 26 becomes 24; 26 to 28 become 24 and 28.
        steps = ('s = a + 12', 'u = b + 14', 'v = 12 + 12')
        self.same([self.told(('same', 's', name), *steps, box=((14, 14), (12, 14))) for name in 'uv'], ['open', 'so'])

    def test_plain(self):
        steps = ('s = a + b', 'd = a - b', 'm = most s d', 'c = choose a b s d', 'p = a * 1')
        self.same([self.told(('plain', name), *steps) for name in 'asdmcp'], ['so', 'open', 'so', 'so', 'so', 'so'])
        # Where all inputs lose something this is not told, but of points.
        box = ((10, 10), (8, 8))
        self.same([self.told(('plain', 's'), *steps, box=part) for part in (((10, 14), (8, 8)), box, ((8, 8), (8, 8)))],
                  ['open', 'not', 'so'])

    def test_nearest(self):
        near, up, down, more = 's = a + b', 's = a + b way up', 's = a + b way down', 's = a + b keep 1'
        self.same(self.at_hundred('nearest', low=-9, high=-1, steps=(near,)), 'so')
        self.same([self.at_hundred('nearest', low=low, high=high, steps=(step,))
                   for step in (near, up, down, more) for low, high in ((0, 4), (1, 4), (4, 6), (6, 9))],
                  ['so', 'so', 'open', 'so', 'open', 'not', 'open', 'so', 'so', 'so', 'open', 'not',
                   'open', 'not', 'open', 'not'])
        # A line alone does not do: with a figure more 100 to 109 are told exactly.
        self.same(self.at_hundred('nearest', low=0, high=9, steps=(more,)), 'open')
        self.same(self.at_hundred('nearest', low=0, high=9, steps=('s = b + 0 keep 1',)), 'so')
        # s is one number, so t is 0; exactly it is 0 to 4, or 1 to 4.
        self.same([self.at_hundred('nearest', name='t', low=low, high=4, steps=(near, 't = s - a')) for low in (0, 1)],
                  ['open', 'not'])

    def test_nearest_with_ends_that_are_over(self):
        # 9950 and more becomes 10000, beyond the greatest number, 9900.
        for step in ('s = a + 9900 way down', 's = a + 9900 keep 1'):
            self.same(self.tens([('nearest', 's')], step, box=((80, 99), (0, 0))), 'open')
            self.same(self.tens([('nearest', 's')], step, box=((80, 80), (0, 0))), 'not')
        # 105 becomes 100, so r is 9400 and 9500; exactly it is from 9890 to 9940, or to 9950.
        steps = ('p = 45 + 60', 'q = p * 90', 'x = a * 5', 'r = q + x')
        self.same([self.tens([('nearest', 'r')], *steps, box=((88, high), (0, 0))) for high in (98, 99, 100)],
                  ['not', 'not', 'open'])
        steps = steps + ('z = 0 - r',)
        self.same([self.tens([('nearest', 'z')], *steps, box=((88, high), (0, 0))) for high in (98, 99, 100)],
                  ['not', 'not', 'open'])

    def test_off(self):
        steps = ('s = a + b', 'm = 0 - s', 'l = a + 0')
        for name in 'sm':
            self.same(self.at_hundred('off', 3, 4, 5, name=name, high=4, steps=steps), 'open so so')
            self.same(self.at_hundred('off', 0, 2, 3, 4, name=name, low=3, high=4, steps=steps), 'not not open so')
        up = ('s = a + b way up', 'm = 0 - s')
        for name in 'sm':
            self.same(self.at_hundred('off', 7, 8, 9, name=name, low=1, high=2, steps=up), 'not open so')
        # By ranges l is up to 19 away from a, by lines it is the same.
        self.same(self.tens([('off', 'l', 0)], *steps, box=((80, 99), (0, 0))), 'so')
        self.same(self.tens([('off', 'l', 39), ('off', 'l', 40)], *steps, box=((80, 120), (0, 0))), 'open so')

    def test_sure(self):
        steps = ('s = a + b way up', 'k = 45 + 60', 't = s - k', 'u = k - s', 'v = s - 100', 'w = 100 - s', 'x = s - 110',
                 'l = b + 0')
        # s is 110, k is 100 for 105: t is 10, exactly -4 to 0, or to 1.
        self.same([self.at_hundred('sure', 9, 10, name=name, low=1, high=5, steps=steps) for name in 'tu'],
                  ['not so', 'not so'])
        self.same([self.at_hundred('sure', 9, 10, name=name, low=1, high=6, steps=steps) for name in 'tu'],
                  ['open so', 'open so'])
        # v is 10, exactly 1 to 9; x is 0, exactly -9 to -1.
        self.same([self.at_hundred('sure', 0, name=name, low=1, high=9, steps=steps) for name in 'svwx'], ['so'] * 4)
        self.same([self.at_hundred('sure', 0, name=name, low=-9, high=9, steps=steps) for name in 'lv'], ['so', 'open'])
        # 106 to 109 become 100, 105 becomes 110: t is -10, exactly 1 to 4.
        steps = ('s = a + b way down', 'k = 45 + 60 way up', 't = s - k', 'u = k - s')
        self.same([self.at_hundred('sure', 9, 10, name=name, low=6, high=9, steps=steps) for name in 'tu'],
                  ['not so', 'not so'])

    def test_straight(self):
        steps = ('s = a + b way up', 'k = 45 + 60', 'c = choose s k 1 2', 'd = choose k s 1 2', 'e = choose s 120 1 2',
                 'f = choose 120 s 1 2', 'g = choose b 3 1 2', 'h = choose s s 1 2', 'i = choose s 110 1 2')
        # s is 110, exactly 101 to 104, or to 105; k is 100, exactly 105.
        self.same([self.at_hundred('straight', name=name, low=1, high=4, steps=steps) for name in 'cdefghi'],
                  ['not', 'not', 'so', 'so', 'so', 'so', 'not'])
        self.same(self.at_hundred('straight', name='i', low=0, high=4, steps=steps), 'open')
        self.same([self.at_hundred('straight', name=name, low=1, high=5, steps=steps) for name in 'cd'], ['open', 'not'])

    def test_straight_by_lines(self):
        # The ranges of d, m and a have much in common; their lines tell.
        steps = ('d = a - b', 'm = most a d', 'c = choose d a 1 2', 'e = choose m a 1 2', 'f = choose a d 1 2')
        self.same([self.told(('straight', name), *steps, box=((8, 14), (8, 10))) for name in 'cef'], ['so', 'so', 'so'])


class Refused(Case):
    """Wrong arguments, the first error first."""

    def test_claims(self):
        for value in wrong_values() + [('sound', 'a'), ('same', 't'), ('straight', 't'), ('off', 't', -1), ['sound'],
                                       ('within', 't', 2, 1), ('nearest', 'x'), 'sound', (('sound',),)]:
            self.refused(BadClaim, value, decided, PAIR, value, None)
            self.refused(BadClaim, value, first_open, PAIR, (('sound',), value, ('plain', 'x')), None)
            if not isinstance(value, tuple):
                self.refused(BadClaim, value, first_open, PAIR, value, None)
        claims = [('sound',)]
        self.refused(BadClaim, claims, first_open, PAIR, claims, PAIR_BOX)
        self.refused_with(BadClaim, 'sound', first_open, PAIR, ('sound',), PAIR_BOX)

    def test_boxes(self):
        for value in wrong_boxes():
            self.refused(BadBox, value, decided, BACK, ('sound',), value)
            self.refused(BadBox, value, first_open, BACK, (('sound',), ('plain', 's')), value)
            self.refused(BadBox, value, first_open, BACK, (), value)

    def test_named_arguments(self):
        self.same(decided(program=BACK, claim=('sound',), box=WHOLE), 'so')
        self.same(first_open(program=PAIR, claims=(('sound',), ('plain', 's')), box=PAIR_BOX), 1)
        self.same(first_open(PAIR, (), PAIR_BOX), None)
        self.same(first_open(PAIR, (('plain', 's'),), ((6, 6), (4, 4))), None)


if __name__ == '__main__':
    unittest.main()
