"""Section 10: ranges, and section 3, (a), (b), (d), as far as they speak of them."""

import random
import unittest
from fractions import Fraction

from roundedsteps.boxes import whole_box
from roundedsteps.errors import BadBox
from roundedsteps.programs import Program
from roundedsteps.ranges import exact_ranges, ranges
from roundedsteps.runs import exact_worths, worths
from tests import slow
from tests.helping import Case, some_box, some_program
from tests.test_boxes import BACK, WHOLE, wrong_boxes
from tests.test_runs import turned_about, without_products


def told_ranges(told, part_of):
    """The ranges that the slow reckoning tells, ends made by part_of."""
    rows = [(name, told.range(name)) for name in told.names()]
    return tuple((name, None if ends is None else tuple(part_of(end) for end in ends)) for name, ends in rows)


class Against(Case):
    """Ranges held against the table's words, and against all runs."""

    def test_the_table(self):
        chance = random.Random(21)
        for _ in range(400):
            program = some_program(chance)
            for box in (whole_box(program), some_box(chance, program)):
                self.same(ranges(program, box), told_ranges(slow.Told(program, box), int))
                self.same(exact_ranges(program, box), told_ranges(slow.Told(program, box, True), slow.pair_of))

    def test_all_runs_in_a_box(self):
        chance = random.Random(22)
        for _ in range(300):
            program = some_program(chance)
            box = some_box(chance, program)
            for inputs in slow.inputs_of(program, box):
                known, exact = dict(worths(program, inputs)), dict(exact_worths(program, inputs))
                for name, ends in ranges(program, box):
                    if ends is not None:
                        self.assertTrue(ends[0] <= known[name] <= ends[1])
                for name, ends in exact_ranges(program, box):
                    if ends is not None:
                        self.assertTrue(Fraction(*ends[0]) <= Fraction(*exact[name]) <= Fraction(*ends[1]))

    def test_points(self):
        chance = random.Random(23)
        for _ in range(150):
            program = some_program(chance)
            for inputs in slow.inputs_of(program)[:10]:
                box = tuple((number, number) for number in inputs)
                known, exact = dict(worths(program, inputs)), dict(exact_worths(program, inputs))
                self.same(dict(ranges(program, box)),
                          {name: (known[name], known[name]) if name in known else None for name in program.names})
                self.same(dict(exact_ranges(program, box)),
                          {name: (exact[name], exact[name]) if name in exact else None for name in program.names})

    def test_boxes_within(self):
        chance = random.Random(24)
        for _ in range(300):
            program = some_program(chance)
            box = some_box(chance, program)
            within = some_box(chance, program.narrowed(box))
            for (_, ends), (_, also) in zip(ranges(program, box), ranges(program, within)):
                if ends is not None:
                    self.assertTrue(ends[0] <= also[0] <= also[1] <= ends[1])
            for (_, ends), (_, also) in zip(exact_ranges(program, box), exact_ranges(program, within)):
                if ends is not None:
                    self.assertTrue(Fraction(*ends[0]) <= Fraction(*also[0]))
                    self.assertTrue(Fraction(*also[1]) <= Fraction(*ends[1]))

    def test_turned_about(self):
        for program in without_products(random.Random(25), 80):
            other = turned_about(program)
            for (name, ends), (_, also) in zip(ranges(program, whole_box(program)), ranges(other, whole_box(other))):
                self.assertEqual(also, None if ends is None else (-ends[1], -ends[0]), (program.text, name))


class Edges(Case):
    """What the section names."""

    def program(self, *steps):
        return Program('\n'.join(['grid 10 2 2 1', 'input a -5 20', 'input b -2 3', *steps, 'tell a']))

    def ends(self, *steps):
        """The range of the last one of these steps, and its exact range."""
        program = self.program(*steps)
        return ranges(program, whole_box(program))[-1][1], exact_ranges(program, whole_box(program))[-1][1]

    def test_inputs(self):
        program = self.program()
        self.same(ranges(program, ((-5, 4), (3, 3))), (('a', (-5, 4)), ('b', (3, 3))))
        self.same(exact_ranges(program, ((-5, 4), (3, 3))), (('a', ((-5, 1), (4, 1))), ('b', ((3, 1), (3, 1)))))

    def test_sums_products_quotients(self):
        self.same(self.ends('s = a - b'), ((-8, 22), ((-8, 1), (22, 1))))
        self.same(self.ends('s = a * b'), ((-4, 6), ((-4, 1), (6, 1))))
        self.same(self.ends('s = b * 7'), ((-1, 2), ((-7, 5), (21, 10))))
        self.same(self.ends('s = a / 7 way up'), ((-7, 29), ((-50, 7), (200, 7))))
        self.same(self.ends('s = a / -7 way zero'), ((-28, 7), ((-200, 7), (50, 7))))
        self.same(self.ends('s = 5 / b'), (None, None))
        self.same(self.ends('s = b - 3', 't = 5 / s'), (None, None))
        self.same(self.ends('s = b + 3', 't = 5 / s'), ((8, 50), ((25, 3), (50, 1))))

    def test_ways_and_more(self):
        self.same(self.ends('s = a + 95')[0], (90, 120))
        self.same(self.ends('s = a + 96 way up')[0], (91, 120))
        self.same(self.ends('s = a + 96 way down')[0], (91, 110))
        self.same(self.ends('s = a + 96 keep 1')[0], (91, 116))

    def test_chosen(self):
        self.same(self.ends('s = least a b'), ((-5, 3), ((-5, 1), (3, 1))))
        self.same(self.ends('s = most a b'), ((-2, 20), ((-2, 1), (20, 1))))
        self.same(self.ends('s = choose a b 7 1'), ((1, 7), ((1, 1), (7, 1))))
        self.same(self.ends('s = choose b 4 7 a'), ((7, 7), ((7, 1), (7, 1))))
        self.same(self.ends('s = choose b 3 7 a'), ((-5, 20), ((-5, 1), (20, 1))))
        self.same(self.ends('s = choose 4 b 7 a'), ((-5, 20), ((-5, 1), (20, 1))))
        self.same(self.ends('s = choose 3 b 7 b'), ((-2, 3), ((-2, 1), (3, 1))))

    def test_behind_a_step_without_one(self):
        program = self.program('s = a + 990', 't = 990 * s', 'u = a + b', 'v = least a 1')
        self.same(ranges(program, whole_box(program))[2:], (('s', (980, 1000)), ('t', None), ('u', None), ('v', None)))
        self.same(exact_ranges(program, whole_box(program))[3:],
                  (('t', ((97515, 1), (99990, 1))), ('u', ((-7, 1), (23, 1))), ('v', ((-5, 1), (1, 1)))))
        program = self.program('s = a / b', 'u = a + b')
        self.same(exact_ranges(program, whole_box(program))[2:], (('s', None), ('u', None)))

    def test_one_end_over(self):
        program = Program('grid 10 2 2 1\ninput a 0 9900\ns = a + 49\nt = a + 50\ntell t')
        self.same(ranges(program, ((0, 9900),))[1:], (('s', (49, 9900)), ('t', None)))
        self.same(ranges(program, ((0, 9800),))[1:], (('s', (49, 9800)), ('t', (50, 9800))))
        program = Program('grid 10 2 2 1\ninput a -9900 0\ns = a - 50\ntell s')
        self.same(ranges(program, ((-9900, 0),))[1:], (('s', None),))

    def test_refused(self):
        for value in wrong_boxes():
            self.refused(BadBox, value, ranges, BACK, value)
            self.refused(BadBox, value, exact_ranges, BACK, value)
        self.same(ranges(program=BACK, box=WHOLE), ranges(BACK, WHOLE))
        self.same(exact_ranges(program=BACK, box=WHOLE), exact_ranges(BACK, WHOLE))


if __name__ == '__main__':
    unittest.main()
