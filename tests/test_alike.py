"""Section 17: two programs for all inputs."""

import random
import unittest

from roundedsteps.alike import first_unlike, same_for_all, shows_same_for_all, shows_unlike_many, unlike_many
from roundedsteps.boxes import inputs_at, points, whole_box
from roundedsteps.errors import OtherInputs, TooLong
from roundedsteps.programs import Program, joined
from roundedsteps.proving import leaves
from tests import slow, slow_cuts
from tests.helping import Case, some_program, some_step, variants, wrong_values
from tests.test_proving import wrong_trees
from tests.test_runs import turned_about, without_products

HEAD = 'grid 2 3 4 0\ninput a 8 14\ninput b 8 14\n'
ONE, TURNED, OTHER = [Program(HEAD + rest) for rest in (
    's = a + b\ntell s', 's = b + a\ntell s', 'h = a - 8\nk = b + 8\ns = h + k\ntell s')]
ENDING = Program(HEAD + 'd = a - b\nq = a / d\ns = a + b\ntell s')


def some_pair(chance):
    """Two small programs of one kind, often nearly the same one."""
    program = some_program(chance, most_steps=4, most_numbers=5)
    lines = program.text.split('\n')
    lines[-1] = 'tell ' + ' '.join(program.told[:2])
    program = Program('\n'.join(lines))
    first = 1 + len(program.inputs)
    names = [row[0] for row in program.inputs]
    for number in range(len(program)):
        if chance.random() < 0.35:
            lines[first + number] = some_step(chance, program.grid, f's{number}', names)
        elif chance.random() < 0.5:
            lines[first + number] = turned_line(program.steps[number], lines[first + number])
        names.append(f's{number}')
    if chance.random() < 0.3:
        lines[-1] = 'tell ' + ' '.join(chance.choice(names) for _ in program.told)
    return program, Program('\n'.join(lines))


def turned_line(step, line):
    """The line of a step, A and B exchanged where that changes nothing."""
    words = line.split(' ')
    if step[1] in ('+', '*'):
        words[2], words[4] = words[4], words[2]
    elif step[1] in ('least', 'most'):
        words[3], words[4] = words[4], words[3]
    return ' '.join(words)


def answer(program, inputs):
    """What a run tells, None if it does not tell."""
    known, end = slow.walk(program, inputs)
    return None if end else tuple(known[name] for name in program.told)


class Slow:
    """Two programs, all inputs gone through."""

    def __init__(self, one, other):
        self.one, self.other = one, other
        self.both = joined(one, other)
        self.unlike = [row for row in slow.inputs_of(one) if answer(one, row) != answer(other, row)]

    def leaf(self, box):
        """What stands on a box: same, unlike, or None."""
        if slow_cuts.is_point(box):
            return 'unlike' if tuple(low for low, _ in box) in self.unlike else 'same'
        many = len(self.one.told)
        claims = [('same', *pair) for pair in zip(self.both.told[:many], self.both.told[many:])]
        found = [slow_cuts.decided(self.both, claim, box) for claim in claims]
        if 'not' in found and slow_cuts.decided(self.both, ('sound',), box) == 'so':
            return 'unlike'
        return 'same' if set(found) == {'so'} else None

    def rows(self, tree):
        return slow_cuts.gone_down(self.one, slow_cuts.whole(self.one), tree, ('box',))

    def shows_same(self, value):
        if type(value) is not tuple or len(value) != 2:
            return False
        if value[0] == 'unlike':
            return slow_cuts.are_inputs(self.one, value[1]) and value[1] in self.unlike
        rows = self.rows(value[1]) if value[0] == 'same' else None
        return rows is not None and all(self.leaf(box) == 'same' for _, box in rows)

    def shows_many(self, value):
        if type(value) is not tuple or len(value) != 2 or type(value[0]) is not int or value[0] != len(self.unlike):
            return False
        rows = self.rows(value[1])
        return rows is not None and all(self.leaf(box) is not None for _, box in rows)


class Against(Case):
    """Pairs of small programs, held against all inputs, and values near what is told."""

    def test_pairs(self):
        chance = random.Random(91)
        counts = {'none': 0, 'some': 0, 'all': 0, 'ends': 0}
        for _ in range(450):
            one, other = some_pair(chance)
            told = Slow(one, other)
            rows = slow.inputs_of(one)
            counts['none' if not told.unlike else 'all' if len(told.unlike) == len(rows) else 'some'] += 1
            counts['ends'] += not told.unlike and any(answer(one, row) is None for row in rows)
            value = same_for_all(one, other)
            self.assertEqual(value[0], 'unlike' if told.unlike else 'same')
            for part in variants(chance, value, 8):
                self.assertIs(shows_same_for_all(one, other, part), told.shows_same(part))
            self.assertTrue(told.shows_same(value))
            value = unlike_many(one, other)
            self.assertTrue(told.shows_many(value))
            for part in variants(chance, value, 8):
                self.assertIs(shows_unlike_many(one, other, part), told.shows_many(part))
            self.same(first_unlike(one, other), told.unlike[0] if told.unlike else None)
        self.assertGreater(min(counts.values()), 10, counts)

    def test_each_with_itself(self):
        chance = random.Random(92)
        for _ in range(100):
            program = some_program(chance, most_steps=8, most_numbers=4)
            if len(program.told) < 3:
                self.same(same_for_all(program, Program(program.text))[0], 'same')
                self.same(unlike_many(program, program)[0], 0)
                self.same(first_unlike(program, program), None)

    def test_turned_about(self):
        chance = random.Random(93)
        for program in without_products(chance, 40):
            if len(program.told) < 3:
                other = Program(program.text.replace(' way down', '').replace(' way up', ''))
                many = unlike_many(program, other)[0]
                self.assertEqual(unlike_many(turned_about(program), turned_about(other))[0], many)


class Edges(Case):
    """What the section names."""

    def test_the_example(self):
        self.same(same_for_all(ONE, TURNED), ('same', ('box',)))
        self.same(first_unlike(ONE, OTHER), (10, 10))
        self.same([unlike_many(ONE, OTHER)[0], unlike_many(OTHER, ONE)[0], unlike_many(ONE, TURNED)], [4, 4, (0, ('box',))])
        self.same([shows_same_for_all(ONE, OTHER, value) for value in
                   (('unlike', (10, 10)), ('unlike', (10, 8)), ('unlike', [10, 10]), ('unlike', (10,)), ('same', ('box',)),
                    ('unlike', (10, 16)), ('unlike',), ['unlike', (10, 10)], None)], [True] + [False] * 8)

    def test_neither_tells(self):
        # Where a is b the one is nought, the other one over.
        over = Program(HEAD + 'd = a - b\ne = most d 1\nf = 112 / e\ng = f + f\ns = a + b\ntell s')
        rows = slow.inputs_of(ENDING)
        found = [row for row in rows if answer(ENDING, row) != answer(over, row)]
        self.same(unlike_many(ENDING, over)[0], len(found))
        self.same(first_unlike(ENDING, over), found[0])
        self.assertTrue(any(answer(ENDING, row) is None and answer(over, row) is None for row in rows))
        self.same(first_unlike(ENDING, ONE), (8, 8))
        self.same(unlike_many(ENDING, ONE)[0], 4)
        never = Program(HEAD + 'q = a / 0\ntell q')
        also = Program(HEAD + 'q = 112 + 112\ntell q')
        self.same(unlike_many(never, also)[0], 0)
        self.same(same_for_all(never, also)[0], 'same')
        self.same(len(leaves(joined(never, also), same_for_all(never, also)[1])), 16)
        self.same(unlike_many(never, ONE)[0], 16)

    def test_a_leaf_on_which_all_are_unlike(self):
        down = Program(HEAD + 's = a - 8\ntell s')
        self.same(unlike_many(ONE, down), (16, ('box',)))
        self.same([shows_unlike_many(ONE, down, value) for value in
                   ((16, ('box',)), (15, ('box',)), (0, ('box',)), ('16', ('box',)), (16, ('not',)), (16,), [16, ('box',)], 16,
                    (16, ('cut', 'a', 8, ('box',), ('box',))), (16, ('cut', 'a', 14, ('box',), ('box',))))],
                  [True] + [False] * 7 + [True, False])

    def test_true_is_not_one(self):
        head = 'grid 2 3 4 0\ninput a 0 1\n'
        one, other = Program(head + 'tell a'), Program(head + 's = a * 2\ntell s')
        tree = unlike_many(one, other)[1]
        self.same(unlike_many(one, other)[0], 1)
        self.same(shows_unlike_many(one, other, (1, tree)), True)
        self.same(shows_unlike_many(one, other, (True, tree)), False)
        self.same(shows_same_for_all(one, other, ('unlike', (1,))), True)
        self.same(shows_same_for_all(one, other, ('unlike', (True,))), False)

    def test_several_results(self):
        one, other = Program(HEAD + 's = a + b\ntell s a'), Program(HEAD + 's = b + a\ntell s b')
        self.same(unlike_many(one, other)[0], 12)
        self.same(first_unlike(one, other), (8, 10))
        self.same(same_for_all(one, Program(HEAD + 's = b + a\ntell s a')), ('same', ('box',)))

    def test_the_first_one_of_great_boxes(self):
        head = f'grid 10 30 60 0\ninput a 0 {10 ** 89}\ninput b 6 9\n'
        one = Program(head + 's = least a 5\nt = most b 7\ntell s t')
        other = Program(head + 's = least a 6\nt = most 7 b\ntell s t')
        self.same(first_unlike(one, other), (6, 6))
        whole = whole_box(one)
        many = points(one, whole)
        self.same(unlike_many(one, other)[0], many - points(one, ((0, 5), whole[1])))
        self.same(inputs_at(one, whole, points(one, ((0, 5), whole[1]))), (6, 6))
        self.same(first_unlike(one, Program(head + 's = least 5 a\nt = most b 7\ntell s t')), None)


class Refused(Case):
    """Programs of other kinds, and values of any kind."""

    def calls(self, one, other):
        return ((same_for_all, (one, other)), (shows_same_for_all, (one, other, None)), (unlike_many, (one, other)),
                (shows_unlike_many, (one, other, None)), (first_unlike, (one, other)))

    def test_other_inputs(self):
        long = ''.join([f's{number} = a + b\n' for number in range(20)])
        for text in ('grid 2 3 5 0\ninput a 8 14\ninput b 8 14\ntell a', 'grid 2 3 4 0\ninput a 8 14\ntell a',
                     'grid 2 3 4 0\ninput a 8 14\ninput c 8 14\ntell a', 'grid 2 3 4 0\ninput a 8 14\ninput b 8 12\ntell a',
                     'grid 2 3 4 0\ninput b 8 14\ninput a 8 14\ntell a', HEAD + 'tell a b', HEAD + long + 'tell a b'):
            other = Program(text)
            for call, told in self.calls(ONE, other):
                self.refused(OtherInputs, other, call, *told)

    def test_too_long(self):
        steps = [''.join([f's{number} = a + b\n' for number in range(many)]) for many in range(21)]
        for one, other, number in ((11, 10, 21), (20, 1, 21), (20, 20, 40)):
            for call, told in self.calls(Program(HEAD + steps[one] + 'tell a'), Program(HEAD + steps[other] + 'tell a')):
                self.refused_with(TooLong, number, call, *told)
            for call, told in self.calls(Program(HEAD + steps[one] + 'tell a b a'), Program(HEAD + steps[other] + 'tell a b a')):
                self.refused_with(TooLong, number, call, *told)
        for call, told in self.calls(Program(HEAD + steps[10] + 'tell a b a'), Program(HEAD + steps[10] + 'tell a b a')):
            self.refused_with(TooLong, 6, call, *told)
        self.same(same_for_all(Program(HEAD + steps[10] + 'tell a s9'), Program(HEAD + steps[10] + 'tell a s8')),
                  ('same', ('box',)))

    def test_values_of_any_kind(self):
        for value in wrong_values() + wrong_trees():
            self.same(shows_same_for_all(ONE, TURNED, value), False)
            self.same(shows_same_for_all(ONE, TURNED, ('same', value)), False)
            self.same(shows_same_for_all(ONE, TURNED, ('unlike', value)), False)
            self.same(shows_unlike_many(ONE, TURNED, value), False)
            self.same(shows_unlike_many(ONE, TURNED, (0, value)), False)
            self.same(shows_unlike_many(ONE, TURNED, (value, ('box',))), False)

    def test_named_arguments(self):
        self.same(same_for_all(one=ONE, other=TURNED), ('same', ('box',)))
        self.same(shows_same_for_all(one=ONE, other=TURNED, value=('same', ('box',))), True)
        self.same(unlike_many(one=ONE, other=TURNED), (0, ('box',)))
        self.same(shows_unlike_many(one=ONE, other=TURNED, value=(0, ('box',))), True)
        self.same(first_unlike(one=ONE, other=TURNED), None)


if __name__ == '__main__':
    unittest.main()
