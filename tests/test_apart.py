"""Section 22: programs told apart by the fewest inputs."""

import random
import unittest
from itertools import combinations

from roundedsteps.apart import fewest_inputs, fitting, kinds, plan, shows_fewest_inputs, shows_plan
from roundedsteps.errors import BadPrograms, BadSeen
from roundedsteps.programs import Program
from tests import slow
from tests.helping import Case, some_program, some_step, variants, wrong_values
from tests.test_alike import turned_line

HEAD = 'grid 2 2 3 0\ninput x 0 12\n'
THREE = tuple([Program(HEAD + 's = x + 1' + way + '\ntell s') for way in ('', ' way down', ' way up')])
PLAN = (2, ('ask', (6,), (((6,), ('kind', (1,))), ((8,), ('ask', (4,), (((4,), ('kind', (0,))), ((6,), ('kind', (2,)))))))))


def some_programs(chance, many):
    """So many small programs that are nearly the same one."""
    base = some_program(chance, most_steps=3, most_numbers=5)
    lines = base.text.split('\n')
    lines[-1] = 'tell ' + ' '.join(base.names[-1:] * chance.choice([1, 1, 2]))
    first = 1 + len(base.inputs)
    found = []
    for _ in range(many):
        row = list(lines)
        names = [part[0] for part in base.inputs]
        for number in range(len(base)):
            if chance.random() < 0.25:
                row[first + number] = some_step(chance, base.grid, f's{number}', names)
            elif chance.random() < 0.5:
                row[first + number] = turned_line(base.steps[number], row[first + number])
            elif base.steps[number][1] in '+-*/' and 'way' not in row[first + number]:
                row[first + number] += chance.choice(['', ' way down', ' way up', ' way zero'])
            names.append(f's{number}')
        found.append(Program('\n'.join(row)))
    return tuple(found)


class Slow:
    """Programs, all inputs gone through."""

    def __init__(self, programs):
        self.rows = slow.inputs_of(programs[0])
        self.answers = {row: [self.answer(program, row) for program in programs] for row in self.rows}
        self.numbers = range(len(programs))
        self.pairs = [pair for pair in combinations(self.numbers, 2) if any(self.parts(pair, row) for row in self.rows)]

    def answer(self, program, row):
        known, end = slow.walk(program, row)
        return None if end else tuple(int(known[name]) for name in program.told)

    def parts(self, pair, row):
        return self.answers[row][pair[0]] != self.answers[row][pair[1]]

    def kinds(self):
        lots = []
        for number in self.numbers:
            lot = next((lot for lot in lots if (lot[0], number) not in self.pairs), None)
            if lot is None:
                lots.append([number])
            else:
                lot.append(number)
        return tuple(tuple(lot) for lot in lots)

    def is_enough(self, lot):
        return all(any(self.parts(pair, row) for row in lot) for pair in self.pairs)

    def least(self):
        """The least number of inputs that are enough: all lots are gone through, of inputs that part unlike pairs."""
        ways = {tuple(self.parts(pair, row) for pair in self.pairs): row for row in self.rows}
        for many in range(len(self.pairs) + 1):
            if any(self.is_enough(lot) for lot in combinations(ways.values(), many)):
                return many

    def shows_fewest(self, value):
        if type(value) is not tuple or len(value) != 2 or type(value[0]) is not int or type(value[1]) is not tuple:
            return False
        if not all(self.are_inputs(row) for row in value[1]) or list(value[1]) != sorted(set(value[1])):
            return False
        return value[0] == len(value[1]) == self.least() and self.is_enough(value[1])

    def are_inputs(self, row):
        return type(row) is tuple and all(type(part) is int for part in row) and row in self.rows

    def best(self, left):
        """How many inputs a plan for these needs at the worst, all plans being gone through."""
        if not any(pair[0] in left and pair[1] in left for pair in self.pairs):
            return 0
        lots = {tuple(self.lots(left, row).values()) for row in self.rows}
        return min(1 + max(self.best(lot) for lot in parts) for parts in lots if len(parts) > 1)

    def lots(self, left, row):
        found = {}
        for number in left:
            found[self.answers[row][number]] = found.get(self.answers[row][number], ()) + (number,)
        return found

    def worst(self, left, value):
        """How many inputs any value needs at the worst as a plan, None for what is none."""
        if type(value) is not tuple:
            return None
        if len(value) == 2 and value[0] == 'kind':
            so = type(value[1]) is tuple and all(type(part) is int for part in value[1]) and value[1] == left
            return 0 if so and not any(pair[0] in left and pair[1] in left for pair in self.pairs) else None
        if len(value) != 3 or value[0] != 'ask' or not self.are_inputs(value[1]) or type(value[2]) is not tuple:
            return None
        lots = self.lots(left, value[1])
        order = sorted(lots, key=lambda told: (told is not None, told or ()))
        if len(lots) < 2 or len(value[2]) != len(lots):
            return None
        found = []
        for part, told in zip(value[2], order):
            if type(part) is not tuple or len(part) != 2 or part[0] != told or type(part[0]) is not type(told):
                return None
            if told is not None and any(type(number) is not int for number in part[0]):
                return None
            found.append(self.worst(lots[told], part[1]))
        return None if None in found else 1 + max(found)

    def shows_plan(self, value):
        if type(value) is not tuple or len(value) != 2 or type(value[0]) is not int:
            return False
        everyone = tuple(self.numbers)
        return value[0] == self.best(everyone) == self.worst(everyone, value[1])


class Against(Case):
    """Held against all inputs, all lots and all plans, and values near what is told."""

    def test_all(self):
        chance = random.Random(141)
        counts, depths, silent = set(), set(), 0
        for _ in range(150):
            programs = some_programs(chance, chance.choice([2, 3, 4, 5, 6]))
            told = Slow(programs)
            self.same(kinds(programs), told.kinds())
            value = fewest_inputs(programs)
            counts.add(value[0])
            self.assertTrue(told.shows_fewest(value))
            for part in variants(chance, value, 10):
                self.assertIs(shows_fewest_inputs(programs, part), told.shows_fewest(part))
            value = plan(programs)
            depths.add(value[0])
            silent += '((None,' in str(value)
            self.assertTrue(told.shows_plan(value), value)
            self.assertLessEqual(value[0], fewest_inputs(programs)[0])
            for part in variants(chance, value, 12):
                self.assertIs(shows_plan(programs, part), told.shows_plan(part))
        self.assertLessEqual({0, 1, 2}, counts)
        self.assertLessEqual({0, 1, 2}, depths)
        self.assertGreater(silent, 5)

    def test_other_lots_and_plans(self):
        chance = random.Random(142)
        right = 0
        for _ in range(60):
            programs = some_programs(chance, 4)
            told = Slow(programs)
            for many in range(3):
                for _ in range(6):
                    lot = tuple(sorted(chance.sample(told.rows, min(many, len(told.rows)))))
                    self.assertIs(shows_fewest_inputs(programs, (len(lot), lot)), told.shows_fewest((len(lot), lot)))
            for _ in range(6):
                tree = self.some_plan(chance, told, tuple(told.numbers))
                for many in (0, 1, 2, 3):
                    right += told.shows_plan((many, tree))
                    self.assertIs(shows_plan(programs, (many, tree)), told.shows_plan((many, tree)))
        self.assertGreater(right, 50)

    def some_plan(self, chance, told, left):
        rows = [row for row in told.rows if len(told.lots(left, row)) > 1]
        if not rows:
            return ('kind', left)
        row = chance.choice(rows)
        lots = told.lots(left, row)
        order = sorted(lots, key=lambda answer: (answer is not None, answer or ()))
        return ('ask', row, tuple((answer, self.some_plan(chance, told, lots[answer])) for answer in order))

    def test_fitting(self):
        chance = random.Random(143)
        for _ in range(100):
            programs = some_programs(chance, chance.randint(2, 6))
            told = Slow(programs)
            seen = []
            for row in chance.sample(told.rows, min(len(told.rows), chance.randint(0, 3))):
                seen.append((row, chance.choice(told.answers[row])))
            fits = tuple(number for number in told.numbers if all(told.answers[row][number] == answer for row, answer in seen))
            self.same(fitting(programs, tuple(seen)), fits)


class Edges(Case):
    """What the section names."""

    def test_the_example(self):
        self.same(kinds(THREE), ((0,), (1,), (2,)))
        self.same(fewest_inputs(THREE), (2, fewest_inputs(THREE)[1]))
        self.same([shows_fewest_inputs(THREE, value) for value in
                   ((2, ((4,), (6,))), (2, ((6,), (8,))), (2, ((6,), (12,))), (2, ((8,), (12,))), (2, ((6,), (4,))), (3, ((4,), (6,), (8,))),
                    (2, ((6,), (6,))), (2, (6, 8)), (2, [(6,), (8,)]), (2, ([6], (8,))), (True, ((6,),)), (1, ((6,),)), (2, ((5,), (6,))))],
                  [True, True, True] + [False] * 10)
        self.same([fitting(THREE, seen) for seen in ((((6,), (8,)),), (((6,), (8,)), ((12,), (16,))), (), (((6,), None),),
                                                   (((0,), (1,)),), (((0,), (1,)),) * 40, (((6,), (7,)),))],
                  [(0, 2), (2,), (0, 1, 2), (), (0, 1, 2), (0, 1, 2), ()])

    def test_plans(self):
        self.same(shows_plan(THREE, PLAN), True)
        self.same(shows_plan(THREE, plan(THREE)), True)
        ask = PLAN[1]
        low, high = ask[2]
        below = high[1][2]
        for value in ((3, ask), (1, ask), ('2', ask), (2, ask, None), [2, ask], (2, ('ask', (6,), (high, low))), (2, ('ask', (6,), (low,))),
                      (2, ('ask', (4,), ask[2])), (2, ('ask', (6,), ask[2] + (low,))), (2, ('kind', (0, 1, 2))), (0, ('kind', (0, 1, 2))),
                      (2, ('ask', (6,), list(ask[2]))), (2, ('ask', [6], ask[2])), (2, ('ask', (6,), (low, list(high)))),
                      (2, ('ask', (6,), (((True,), low[1]), high))), (2, ('ask', (6,), (((6,), ('kind', (True,))), high))),
                      (2, ('ask', (6,), (((6,), ('kind', [1])), high))), (2, ('ask', (6,), (low, ((8,), ('kind', (0, 2)))))),
                      (2, ('ask', (6,), (low, ((8,), ('ask', (4,), below[::-1]))))), (2, ('ask', (0,), (((1,), ask),))),
                      (3, ('ask', (0,), (((1,), ask),))), (2, ('ask', (6,), (((6,), ('kind', ())), high))), (2, None), None):
            self.same(shows_plan(THREE, value), False)
        # An ask that leaves all makes this plan no longer than the best one, but is none.
        useless = ('ask', (6,), (((6,), ('ask', (0,), (((1,), ('kind', (1,))),))), high))
        self.same(shows_plan(THREE, (2, useless)), False)
        other = ('ask', (4,), (((4,), ('ask', (6,), (((6,), ('kind', (1,))), ((8,), ('kind', (0,)))))), ((6,), ('kind', (2,)))))
        self.same(shows_plan(THREE, (2, other)), True)

    def test_one_kind(self):
        same = (THREE[0], THREE[0], Program(HEAD + 's = 1 + x\ntell s'))
        self.same([kinds(same), fewest_inputs(same), plan(same)], [((0, 1, 2),), (0, ()), (0, ('kind', (0, 1, 2)))])
        self.same([shows_fewest_inputs(same, value) for value in ((0, ()), (1, ((6,),)), (False, ()), (0, []))],
                  [True, False, False, False])
        self.same([shows_plan(same, value) for value in ((0, ('kind', (0, 1, 2))), (0, ('kind', (0, 1))), (False, ('kind', (0, 1, 2))),
                                                        (0, ('kind', (0, 2, 1))), (1, ('ask', (6,), (((8,), ('kind', (0, 1, 2))),))))],
                  [True, False, False, False, False])
        mixed = (THREE[0], THREE[1], same[2])
        self.same(kinds(mixed), ((0, 2), (1,)))
        self.same(plan(mixed), (1, ('ask', (6,), (((6,), ('kind', (1,))), ((8,), ('kind', (0, 2)))))))
        self.same(shows_plan(mixed, (0, ('kind', (0, 1, 2)))), False)

    def test_none_stands_ahead(self):
        nought = Program(HEAD + 's = 4 / x\ntell s')
        other = Program(HEAD + 's = most x 1\nt = 4 / s\ntell t')
        told = plan((other, nought))
        self.same(told, (1, ('ask', (0,), ((None, ('kind', (1,))), ((4,), ('kind', (0,)))))))
        self.same(shows_plan((other, nought), (1, ('ask', (0,), told[1][2][::-1]))), False)
        self.same(fitting((other, nought), (((0,), None),)), (1,))
        self.same(fitting((nought, nought), (((0,), None), ((1,), (4,)))), (0, 1))

    def test_a_plan_that_needs_fewer(self):
        # Which input is asked for second hangs on the answer to the first one.
        programs = tuple([Program(HEAD + f'q = choose x 2 {b} {c}\nr = choose x 3 q 0\ns = choose x 1 {a} r\ntell s')
                          for a, b, c in ((0, 0, 0), (0, 1, 0), (1, 0, 0), (1, 0, 1))])
        self.same(fewest_inputs(programs), (3, ((0,), (1,), (2,))))
        told = plan(programs)
        self.same(told[0], 2)
        self.same(told[1][:2], ('ask', (0,)))
        self.same([shows_plan(programs, told), Slow(programs).shows_plan(told)], [True, True])
        one, other = told[1][2]
        for rows in (((one[0], ('kind', (0, 1))), other), (one, (other[0], ('kind', (2, 3))))):
            self.same(shows_plan(programs, (2, ('ask', (0,), rows))), False)

    def test_many_inputs(self):
        head = 'grid 10 2 0 0\ninput a 1 64\ninput b 1 64\n'
        programs = tuple([Program(head + f's = least a {most}\nt = most s {least}\ntell t') for most, least in
                          ((60, 2), (61, 2), (60, 3), (62, 2), (60, 4), (60, 2))])
        self.same(kinds(programs), ((0, 5), (1,), (2,), (3,), (4,)))
        told = fewest_inputs(programs)
        self.same([told[0], shows_fewest_inputs(programs, told), shows_plan(programs, plan(programs))], [2, True, True])

    def test_values_of_any_kind(self):
        for value in wrong_values():
            self.same(shows_fewest_inputs(THREE, value), False)
            self.same(shows_fewest_inputs(THREE, (2, value)), False)
            self.same(shows_fewest_inputs(THREE, (value, ((4,), (6,)))), False)
            self.same(shows_fewest_inputs(THREE, (2, ((4,), value))), False)
            self.same(shows_plan(THREE, value), False)
            self.same(shows_plan(THREE, (2, value)), False)
            self.same(shows_plan(THREE, (value, PLAN[1])), False)
            self.same(shows_plan(THREE, (2, ('ask', value, PLAN[1][2]))), False)
            self.same(shows_plan(THREE, (2, ('ask', (6,), value))), False)
            self.same(shows_plan(THREE, (2, ('ask', (6,), (PLAN[1][2][0], value)))), False)
            self.same(shows_plan(THREE, (2, ('ask', (6,), (PLAN[1][2][0], (value, PLAN[1][2][1][1]))))), False)
            self.same(shows_plan(THREE, (2, ('ask', (6,), (PLAN[1][2][0], ((8,), value))))), False)


class Refused(Case):
    """Wrong arguments, the first error first."""

    def test_programs(self):
        one = THREE[0]
        others = [Program(text) for text in
                  ('grid 2 2 4 0\ninput x 0 12\ntell x', 'grid 2 2 3 0\ninput y 0 12\ntell y', 'grid 2 2 3 0\ninput x 0 8\ntell x',
                   HEAD + 'tell x x', 'grid 2 2 3 0\ninput x 0 12\ninput y 0 1\ntell x')]
        wrong = [(one,), (one,) * 7, list(THREE), (one, None), (one, one.text), (one, [one]), (THREE,), one]
        for value in wrong_values() + wrong + [(one, other) for other in others] + [(one, one, other) for other in others]:
            for call, told in ((kinds, ()), (fewest_inputs, ()), (shows_fewest_inputs, (None,)), (fitting, (None,)), (plan, ()),
                               (shows_plan, (None,))):
                self.refused(BadPrograms, value, call, value, *told)
        self.same(kinds((one,) * 6), ((0, 1, 2, 3, 4, 5),))

    def test_seen(self):
        part = ((6,), (8,))
        wrong = [part, [part], (list(part),), (part,) * 41, (((5,), (8,)),), (((6,), (8, 8)),), (((6,), ()),), (((6,), [8]),), (((6,), 8),),
                 (((6,), (True,)),), (((True,), (8,)),), (((6,), ('8',)),), (((6,), (None,)),), (((6,),),), (((6,), (8,), 1),),
                 (part, None), (([6], (8,)),), (((16,), (8,)),), (((6, 6), (8,)),), (((6,), False),)]
        for value in [value for value in wrong_values() if value != ()] + wrong:
            self.refused(BadSeen, value, fitting, THREE, value)
        self.same(fitting(THREE, (((6,), (10 ** 100,)),)), ())

    def test_named_arguments(self):
        self.same(kinds(programs=THREE), ((0,), (1,), (2,)))
        self.same(shows_fewest_inputs(programs=THREE, value=fewest_inputs(programs=THREE)), True)
        self.same(fitting(programs=THREE, seen=()), (0, 1, 2))
        self.same(shows_plan(programs=THREE, value=plan(programs=THREE)), True)


if __name__ == '__main__':
    unittest.main()
