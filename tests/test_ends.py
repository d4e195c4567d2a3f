"""Section 16: greatest and least results, how far off, and comparisons that are turned."""

import random
import unittest

from roundedsteps.boxes import whole_box
from roundedsteps.ends import farthest, greatest, lowest, shows_farthest, shows_greatest, shows_lowest, shows_turned, turned
from roundedsteps.errors import NoName
from roundedsteps.programs import Program
from roundedsteps.proving import leaves
from tests import slow, slow_cuts
from tests.helping import Case, some_program, some_twisted, variants, wrong_values
from tests.test_boxes import BACK
from tests.test_proving import wrong_trees
from tests.test_runs import turned_about, without_products

TWO = Program('grid 2 3 4 0\ninput a 8 14\ninput b 8 14\ns = a + b\nd = a - b\nm = most a d\nt = b + m\ntell s t')
NEAR = Program('grid 2 3 4 0\ninput a 8 14\ns = a + 8\nt = a + 10\ntell s t')
NEVER = Program('grid 2 3 4 0\ninput a 0 7\nd = a - a\ne = 4 / d\nf = e + a\ntell f')


class Slow:
    """What a name comes to, all inputs gone through, and what is told of it."""

    def __init__(self, program, name):
        self.program, self.name = program, name
        self.come = {row: slow_cuts.come(program, name, row) for row in slow.inputs_of(program)}
        self.worths = {row: worth for row, (worth, _) in self.come.items() if worth is not None}
        self.offs = {row: abs(worth - exact) for row, (worth, exact) in self.come.items() if None not in (worth, exact)}

    def cuts(self, tree, is_leaf):
        rows = slow_cuts.gone_down(self.program, slow_cuts.whole(self.program), tree, ('box',))
        return rows is not None and all(is_leaf(box) for _, box in rows)

    def is_end(self, value, best, place):
        """Whether any value is the greatest (best max, place 0) or the least (min, 1) worth."""
        if not self.worths:
            return type(value) is tuple and value == ('never',)
        if type(value) is not tuple or len(value) != 4 or value[0] != 'at' or type(value[1]) is not int:
            return False
        limit = best(self.worths.values())
        if value[1] != limit or not slow_cuts.are_inputs(self.program, value[2]) or self.worths.get(value[2]) != limit:
            return False

        def is_leaf(box):
            if slow_cuts.is_point(box):
                worth = self.worths.get(tuple(low for low, _ in box), limit)
            else:
                worth = slow_cuts.bounds(self.program, self.name, box)[place]
            return worth is not None and best(worth, limit) == limit
        return self.cuts(value[3], is_leaf)

    def is_farthest(self, value):
        if not self.offs:
            return type(value) is tuple and value == ('never',)
        if type(value) is not tuple or len(value) != 4 or value[0] != 'off':
            return False
        limit = max(self.offs.values())
        if slow_cuts.fraction(value[1]) != limit or not slow_cuts.are_inputs(self.program, value[2]):
            return False
        if self.offs.get(value[2]) != limit:
            return False

        def is_leaf(box):
            if slow_cuts.is_point(box):
                return True
            off = slow_cuts.bounds(self.program, self.name, box)[2]
            return off is not None and off <= limit
        return self.cuts(value[3], is_leaf)


def shows_turning(program, one, other, value):
    """Whether any value is what turned tells, by the document's words."""
    if type(value) is not tuple or len(value) != 2:
        return False
    if value[0] == 'turned':
        return slow_cuts.are_inputs(program, value[1]) and slow_cuts.is_turned(program, one, other, value[1])
    rows = slow_cuts.gone_down(program, slow_cuts.whole(program), value[1], ('box',)) if value[0] == 'straight' else None
    return rows is not None and all(slow_cuts.straight_on(program, one, other, box) for _, box in rows)


class Against(Case):
    """Names of small programs, held against all inputs, and values near what is told."""

    def test_ends(self):
        chance = random.Random(81)
        words = set()
        for _ in range(150):
            program = some_program(chance, most_steps=6, most_numbers=5)
            for name in chance.sample(program.names, min(3, len(program.names))):
                told = Slow(program, name)
                for call, shows, best, place in ((greatest, shows_greatest, max, 0), (lowest, shows_lowest, min, 1)):
                    value = call(program, name)
                    words.add(value[0])
                    self.assertTrue(told.is_end(value, best, place), (program.text, name, value))
                    for part in variants(chance, value, 8):
                        self.assertIs(shows(program, name, part), told.is_end(part, best, place))
        self.assertEqual(words, {'at', 'never'})

    def test_farthest(self):
        chance = random.Random(82)
        words = set()
        for _ in range(150):
            program = some_program(chance, most_steps=6, most_numbers=5)
            for name in chance.sample(program.names, min(3, len(program.names))):
                told = Slow(program, name)
                value = farthest(program, name)
                words.add((value[0], len(value) > 1 and value[1][1] > 1))
                self.assertTrue(told.is_farthest(value), (program.text, name, value))
                for part in variants(chance, value, 10):
                    self.assertIs(shows_farthest(program, name, part), told.is_farthest(part))
        self.assertEqual(words, {('off', True), ('off', False), ('never', False)})

    def test_turned(self):
        chance = random.Random(83)
        words = {'turned': 0, 'straight': 0}
        for number in range(300):
            program = some_program(chance, most_steps=6, most_numbers=5) if number % 2 else some_twisted(chance)
            one, other = chance.choice(program.names), chance.choice(program.names)
            value = turned(program, one, other)
            words[value[0]] += 1
            found = any(slow_cuts.is_turned(program, one, other, row) for row in slow.inputs_of(program))
            self.assertEqual(value[0], 'turned' if found else 'straight')
            for part in variants(chance, value, 12):
                self.assertIs(shows_turned(program, one, other, part), shows_turning(program, one, other, part))
        self.assertGreater(min(words.values()), 10)

    def test_turned_about(self):
        chance = random.Random(84)
        for program in without_products(chance, 50):
            other = turned_about(program)
            for name in program.names:
                one, also = greatest(program, name), lowest(other, name)
                self.assertEqual(one[0], also[0])
                if one[0] == 'at':
                    self.assertEqual(one[1], -also[1])
                    self.assertTrue(shows_lowest(other, name, ('at', -one[1], tuple(-part for part in one[2]), also[3])))
                self.assertEqual(farthest(program, name)[:2], farthest(other, name)[:2])


class Edges(Case):
    """What the section names."""

    def test_the_example(self):
        self.same(greatest(TWO, 's')[1], 28)
        self.same(lowest(TWO, 's')[1], 16)
        self.same([lowest(TWO, 'd'), greatest(TWO, 'd')],
                  [('at', -6, (8, 14), ('box',)), ('at', 6, (14, 8), ('box',))])
        self.same(farthest(TWO, 's')[:2], ('off', (2, 1)))
        self.same(farthest(TWO, 'm'), ('off', (0, 1), farthest(TWO, 'm')[2], ('box',)))
        self.same([shows_farthest(TWO, 'd', ('off', worth, (8, 14), ('box',))) for worth in
                   ((0, 1), (0, 2), (1, 1), 0, (False, 1), (0, True), [0, 1], (0, 1, 1), None, (-0, 1))],
                  [True, False, False, False, False, False, False, False, False, True])

    def test_near_what_is_told(self):
        right = ('at', 28, (14, 14), ('box',))
        self.same(shows_greatest(TWO, 's', right), True)
        cut = ('cut', 'a', 12, ('box',), ('box',))
        for value in (('at', 28, (14, 14), cut), ('at', 28, (14, 14), ('cut', 'b', 8, cut, cut))):
            self.same(shows_greatest(TWO, 's', value), True)
        for value in (('at', 28, (12, 14), ('box',)), ('at', 24, (12, 12), ('box',)), ('at', 32, (14, 14), ('box',)), ('at', 28, (12, 12), ('box',)),
                      ('at', 28, (14, 16), ('box',)), ('at', 28, [14, 14], ('box',)), ('off', 28, (14, 14), ('box',)),
                      ('at', 28, (14, 14), ('so',)), ('at', 28, (14, 14)), ('at', (28, 1), (14, 14), ('box',)),
                      ('at', '28', (14, 14), ('box',)), ('at', 28, (14,), ('box',)), ('at', 28, (14, 14), ('box',), None),
                      ('at', 28, (14, 14), ('cut', 'a', 14, ('box',), ('box',))), list(right), ('never',), None, (),
                      ('at', True, (14, 14), ('box',)), ('at', 28, (14, 14), None), ('lowest', 28, (14, 14), ('box',))):
            self.same(shows_greatest(TWO, 's', value), False)
        self.same(shows_lowest(TWO, 's', right), False)
        self.same(shows_farthest(TWO, 's', right), False)
        self.same(shows_greatest(TWO, 't', right), True)
        self.same(shows_greatest(TWO, 'a', right), False)

    def test_true_is_not_one(self):
        program = Program('grid 2 3 4 0\ninput a 0 1\ntell a')
        for shows, value in ((shows_greatest, ('at', 1, (1,), ('box',))), (shows_lowest, ('at', 0, (0,), ('box',)))):
            self.same(shows(program, 'a', value), True)
            self.same(shows(program, 'a', ('at', bool(value[1]), value[2], ('box',))), False)
            self.same(shows(program, 'a', ('at', value[1], (bool(value[1]),), ('box',))), False)
        cut = ('cut', 'a', 0, ('box',), ('box',))
        self.same(shows_greatest(program, 'a', ('at', 1, (1,), cut)), True)
        self.same(shows_greatest(program, 'a', ('at', 1, (1,), ('cut', 'a', False, ('box',), ('box',)))), False)

    def test_a_line_tells_what_a_range_does_not(self):
        program = Program('grid 2 3 4 0\ninput a 8 14\ninput b 8 14\nd = a - b\nt = a - d\ne = 1 / d\ntell t')
        # t is b; e has no range, but t's own line tells enough.
        self.same(greatest(program, 't')[:2], ('at', 14))
        self.same(shows_greatest(program, 't', ('at', 14, (8, 14), ('box',))), True)
        self.same(shows_lowest(program, 't', ('at', 8, (14, 8), ('box',))), True)
        self.same(shows_greatest(program, 'e', ('at', 1, (10, 8), ('box',))), False)

    def test_never(self):
        for name in 'ef':
            for call, shows in ((greatest, shows_greatest), (lowest, shows_lowest), (farthest, shows_farthest)):
                self.same(call(NEVER, name), ('never',))
                for value, so in ((('never',), True), (['never'], False), ('never', False), (('never', None), False), ((), False),
                                  (('at', 0, (0,), ('box',)), False), (('off', (0, 1), (0,), ('box',)), False),
                                  (('at', None, (0,), ('box',)), False), (('off', None, (0,), ('box',)), False)):
                    self.same(shows(NEVER, name, value), so)
        self.same(greatest(NEVER, 'd'), ('at', 0, greatest(NEVER, 'd')[2], ('box',)))
        self.same(shows_greatest(NEVER, 'd', ('never',)), False)
        self.same(turned(NEVER, 'e', 'f')[0], 'straight')
        self.same(turned(NEVER, 'a', 'e')[0], 'straight')

    def test_one_point(self):
        program = Program('grid 2 3 4 0\ninput a 5 5\ns = a + 6\nt = a / 0\ntell s')
        self.same([greatest(program, 's'), lowest(program, 's'), farthest(program, 's')],
                  [('at', 12, (5,), ('box',)), ('at', 12, (5,), ('box',)), ('off', (1, 1), (5,), ('box',))])
        self.same([call(program, 't') for call in (greatest, lowest, farthest)], [('never',)] * 3)
        self.same(turned(program, 's', 's'), ('straight', ('box',)))
        self.same(turned(program, 't', 's'), ('straight', ('box',)))

    def test_comes_in_one_run_alone(self):
        # 7 + 2 becomes 8, so d is 0 there, and e is nought; exactly d is 1.
        program = Program('grid 2 3 4 0\ninput a 0 7\ns = a + 2\nd = s - 8\ne = 8 / d\ntell e')
        self.assertTrue(Slow(program, 'e').is_farthest(farthest(program, 'e')))
        self.assertEqual(farthest(program, 'e')[1], (2, 5))
        self.assertEqual(Slow(program, 'e').come[7,], (None, 8))
        self.assertEqual(leaves(program, farthest(program, 'e')[3])[-1], ((7, 7),))

    def test_turned_at_one_input(self):
        self.same(turned(NEAR, 's', 't'), ('turned', (8,)))
        self.same([shows_turned(NEAR, 's', 't', value) for value in
                   (('turned', (8,)), ('turned', (10,)), ('turned', (12,)), ('turned', 8), ('turned', [8]), ('turned', (8, 8)),
                    ['turned', (8,)], ('straight', (8,)), ('straight', ('box',)), ('turned',), ('turned', (8,), ()), None)],
                  [True] + [False] * 11)
        tree = turned(NEAR, 't', 's')[1]
        self.same(shows_turned(NEAR, 't', 's', ('straight', tree)), True)
        self.same(shows_turned(NEAR, 's', 't', ('straight', tree)), False)

    def test_great_ranges(self):
        program = Program(f'grid 10 30 60 0\ninput a {-10 ** 89} {10 ** 89}\ninput b 1 {10 ** 89}\nd = a - b\nq = a / b\ntell d')
        self.same([greatest(program, 'd')[:2], lowest(program, 'd')[:2]], [('at', 10 ** 89), ('at', -2 * 10 ** 89)])
        self.same(greatest(program, 'q'), ('at', 10 ** 89, (10 ** 89, 1), ('box',)))
        self.same(lowest(program, 'q'), ('at', -10 ** 89, (-10 ** 89, 1), ('box',)))

    def test_values_of_any_kind(self):
        for value in wrong_trees():
            for shows in (shows_greatest, shows_lowest, shows_farthest):
                self.same(shows(BACK, 's', value), False)
                self.same(shows(BACK, 's', ('at', 130, (120, 9), value)), False)
                self.same(shows(BACK, 's', ('at', value, (120, 9), ('box',))), False)
                self.same(shows(BACK, 's', ('at', 130, value, ('box',))), False)
                self.same(shows(BACK, 's', ('off', value, (120, 9), ('box',))), False)
            self.same(shows_turned(BACK, 's', 't', value), False)
            self.same(shows_turned(BACK, 's', 't', ('straight', value)), False)
            self.same(shows_turned(BACK, 's', 't', ('turned', value)), False)


class Refused(Case):
    """Wrong arguments, the first error first."""

    def test_names(self):
        for value in wrong_values() + ['c', 0, ['a'], 'A', 'tell', ('a',)]:
            for call in (greatest, lowest, farthest):
                self.refused(NoName, value, call, BACK, value)
            for call in (shows_greatest, shows_lowest, shows_farthest):
                self.refused(NoName, value, call, BACK, value, ('never',))
            self.refused(NoName, value, turned, BACK, value, None)
            self.refused(NoName, value, turned, BACK, 'a', value)
            self.refused(NoName, value, shows_turned, BACK, value, 'x', None)
            self.refused(NoName, value, shows_turned, BACK, 's', value, None)

    def test_named_arguments(self):
        for call, shows in ((greatest, shows_greatest), (lowest, shows_lowest), (farthest, shows_farthest)):
            told = call(program=TWO, name='s')
            self.same(shows(program=TWO, name='s', value=told), True)
        told = turned(program=NEAR, one='s', other='t')
        self.same(shows_turned(program=NEAR, one='s', other='t', value=told), True)
        self.assertEqual(whole_box(NEAR), ((8, 14),))


if __name__ == '__main__':
    unittest.main()
