"""Section 9: boxes."""

import random
import unittest

from roundedsteps.boxes import cut_at, halved, inputs_at, points, whole_box
from roundedsteps.errors import BadBox, BadCut, BadName, BadNumber
from roundedsteps.programs import Program
from tests import slow
from tests.helping import Case, some_box, some_program, wrong_values

BACK = Program('grid 10 2 2 0\ninput a 90 120\ninput b 5 9\ns = a + b\nt = s - b\ntell t')
WHOLE = ((90, 120), (5, 9))


def wrong_boxes():
    """Values that are no boxes of BACK."""
    return wrong_values() + [
        ((90, 120),), ((90, 120), (5, 9), (5, 9)), [(90, 120), (5, 9)], ([90, 120], (5, 9)), ((120, 90), (5, 9)),
        ((89, 120), (5, 9)), ((90, 130), (5, 9)), ((90, 105), (5, 9)), ((101, 120), (5, 9)), ((90, 120), (5, True)),
        ((90, 120), (5, None)), ((90, 120), (5,)), ((90, 120), (5, 6, 9)), ((90, 120), '59'), ((90, 120), (4, 9)), 5]


class Told(Case):
    """What is told of boxes, held against all inputs."""

    def test_whole_box(self):
        self.same(whole_box(program=BACK), WHOLE)
        self.same(whole_box(Program('grid 2 1 0 0\ninput a -1 -1\ntell a')), ((-1, -1),))

    def test_points_and_inputs_at(self):
        chance = random.Random(11)
        for _ in range(150):
            program = some_program(chance, most_steps=2)
            for box in (whole_box(program), some_box(chance, program)):
                rows = sorted(slow.inputs_of(program, box))
                self.same(points(program, box), len(rows))
                self.same([inputs_at(program, box, at) for at in range(len(rows))], rows)
                for number in (-1, len(rows)):
                    self.refused(BadNumber, number, inputs_at, program, box, number)

    def test_many_points(self):
        program = Program('grid 10 30 60 0\ninput a 0 1\ninput b ' + f'{-10 ** 89} {10 ** 89}\ntell a')
        many = points(program, whole_box(program))
        self.assertEqual(many, 2 * (2 * program.grid.rank(10 ** 89) + 1))
        self.assertEqual(inputs_at(program, whole_box(program), many - 1), (1, 10 ** 89))
        self.assertEqual(inputs_at(program, whole_box(program), many // 2), (1, -10 ** 89))

    def test_cut_at_parts_a_box(self):
        chance = random.Random(12)
        for _ in range(100):
            program = some_program(chance, most_steps=2)
            box = some_box(chance, program)
            for place, (name, _, _) in enumerate(program.inputs):
                numbers = sorted({row[place] for row in slow.inputs_of(program, box)})
                for at in numbers[:-1]:
                    below, above = cut_at(program, box, name, at)
                    both = slow.inputs_of(program, below) + slow.inputs_of(program, above)
                    self.assertEqual(sorted(both), sorted(slow.inputs_of(program, box)))
                    self.assertEqual(below[place], (box[place][0], at))
                    self.assertEqual(above[place][1], box[place][1])
                    self.assertEqual([below[:place], above[place + 1:]], [box[:place], box[place + 1:]])
                self.refused(BadCut, numbers[-1], cut_at, program, box, name, numbers[-1])

    def test_halved(self):
        chance = random.Random(13)
        for _ in range(150):
            program = some_program(chance, most_steps=2)
            box = some_box(chance, program)
            sides = [sorted({row[place] for row in slow.inputs_of(program, box)}) for place in range(len(box))]
            most = max(len(side) for side in sides)
            if most == 1:
                self.assertIs(halved(program, box), None)
                continue
            place = [len(side) for side in sides].index(most)
            ahead = [number for number in sides[place]][:(most + 1) // 2]
            self.same(halved(program, box), cut_at(program, box, program.inputs[place][0], ahead[-1]))

    def test_halved_of_equal_sides(self):
        program = Program('grid 10 2 2 0\ninput a 1 3\ninput b 7 9\ntell a')
        self.same(halved(program, ((1, 3), (7, 9))), (((1, 2), (7, 9)), ((3, 3), (7, 9))))
        self.same(halved(program, ((1, 2), (7, 9))), (((1, 2), (7, 8)), ((1, 2), (9, 9))))
        self.same(halved(program=program, box=((3, 3), (8, 9))), (((3, 3), (8, 8)), ((3, 3), (9, 9))))
        self.same(halved(program, ((3, 3), (9, 9))), None)

    def test_halving_comes_to_points(self):
        boxes, leaves = [WHOLE], []
        while boxes:
            box = boxes.pop()
            halves = halved(BACK, box)
            if halves is None:
                leaves.append(tuple(low for low, _ in box))
            else:
                boxes.extend(halves)
        self.assertEqual(sorted(leaves), sorted(slow.inputs_of(BACK)))


class Refused(Case):
    """Wrong arguments, the first error first."""

    def test_boxes(self):
        for value in wrong_boxes():
            self.refused(BadBox, value, points, BACK, value)
            self.refused(BadBox, value, inputs_at, BACK, value, None)
            self.refused(BadBox, value, cut_at, BACK, value, None, None)
            self.refused(BadBox, value, halved, BACK, value)

    def test_numbers(self):
        for value in wrong_values() + [-1, 65, 10 ** 30]:
            self.refused(BadNumber, value, inputs_at, BACK, WHOLE, value)
        self.same(inputs_at(program=BACK, box=WHOLE, number=64), (120, 9))

    def test_names(self):
        for value in wrong_values() + ['s', 't', 'c', 0, ['a']]:
            self.refused(BadName, value, cut_at, BACK, WHOLE, value, None)

    def test_cuts(self):
        for value in wrong_values() + [89, 80, 120, 130, 101, 119, 5]:
            self.refused(BadCut, value, cut_at, BACK, WHOLE, 'a', value)
        self.refused(BadCut, 5, cut_at, BACK, ((90, 120), (5, 5)), 'b', 5)
        self.same(cut_at(program=BACK, box=WHOLE, name='a', at=90), (((90, 90), (5, 9)), ((91, 120), (5, 9))))
        self.same(cut_at(BACK, WHOLE, 'a', 110), (((90, 110), (5, 9)), ((120, 120), (5, 9))))


if __name__ == '__main__':
    unittest.main()
