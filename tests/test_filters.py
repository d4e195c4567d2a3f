"""Section 25: filters."""

import random
import unittest

from roundedsteps.errors import BadBox, BadChoices, BadInputs, BadNumber, BadPrices, BadStages, ManyInputs
from roundedsteps.filters import (cheapest_stages, least_bound, safe, shows_cheapest_stages, shows_least_bound, shows_safe,
                                  sign_counts, sign_told)
from roundedsteps.programs import Program
from tests import slow, slow_cuts
from tests.helping import Case, some_box, some_program, variants, wrong_values
from tests.test_figures import Slow as Choices
from tests.test_looks import strictly

SIDES = Program('grid 2 3 6 0\ninput a 5 7\ninput b 5 7\np = a * b\nq = b * b\nd = p - q\ntell d')
WHOLE = ((5, 7), (5, 7))
# With few figures it tells wrong signs: a + b is rounded before b + a little is taken away.
WRONG = Program('grid 2 3 6 0\ninput a 8 14\ninput b 1 5\ns = a + b\nt = s - a\nd = t - 2\ntell d s')
# Exactly the divisor is 0 at 7; rounded it is not.
GONE = Program('grid 2 3 4 0\ninput x 5 7\ns = x + 2\ne = s - 7\nd = e - 2\nq = 1 / d\ntell q d')


def sign(worth):
    return (worth > 0) - (worth < 0)


class Slow:
    """The first told name of a program with a choice at all inputs: its worth, its exact worth, None where not told."""

    def __init__(self, program, choice):
        self.program, self.choice = program, choice
        self.kept = program.with_more(choice)
        self.name = program.told[0]
        self.worths, self.exact = {}, {}
        for row in slow.inputs_of(program):
            known, end = slow.walk(self.kept, row)
            self.worths[row] = known[self.name] if end is None else None
            self.exact[row] = slow.walk(program, row, slow.rounding_steps(program))[0].get(self.name)

    def ends(self):
        return [row for row in self.worths if self.worths[row] is None or self.exact[row] is None]

    def bound(self):
        """The least bound, None where there is none."""
        if self.ends():
            return None
        number = 0
        while not all(self.is_sure(row, number) for row in self.worths):
            number += 1
        return number

    def is_sure(self, row, number):
        if row in self.ends():
            return False
        return abs(self.worths[row]) <= number or sign(self.worths[row]) == sign(self.exact[row])

    def decides(self, bound, row):
        """The sign that a stage tells, 0 if it does not decide."""
        worth = self.worths[row]
        return 0 if worth is None or -bound <= worth <= bound else sign(worth)

    def proves(self, bound, told):
        return slow_cuts.proves(self.kept, ('sure', self.name, bound), told)

    def shows_bound(self, value):
        if type(value) is not tuple:
            return False
        if self.bound() is None:
            return len(value) == 2 and value[0] == 'ends' and slow_cuts.are_inputs(self.program, value[1]) and value[1] in self.ends()
        if len(value) != 4 or not strictly(value[:2], ('bound', self.bound())) or not self.proves(value[1], ('cut', value[2])):
            return False
        if value[1] == 0:
            return value[3] is None
        return slow_cuts.are_inputs(self.program, value[3]) and not self.is_sure(value[3], value[1] - 1)


def shows_stages_safe(program, stages, value):
    """Whether any value is what safe tells."""
    told = [Slow(program, choice) for choice, _ in stages]
    wrong = [at for at, (one, (_, bound)) in enumerate(zip(told, stages)) if not all(one.is_sure(row, bound) for row in one.worths)]
    if type(value) is not tuple:
        return False
    if wrong:
        if len(value) != 3 or not strictly(value[:2], ('wrong', wrong[0])):
            return False
        return slow_cuts.are_inputs(program, value[2]) and not told[wrong[0]].is_sure(value[2], stages[wrong[0]][1])
    if len(value) != 2 or value[0] != 'safe' or type(value[1]) is not tuple or len(value[1]) != len(stages):
        return False
    return all(one.proves(bound, ('cut', tree)) for one, (_, bound), tree in zip(told, stages, value[1]))


class Staged:
    """All one or two stages of prices, with what the inputs of a box pay."""

    def __init__(self, program, prices, last, box):
        self.program = program
        self.costs = {choice: cost for cost, choice in Choices(program, ('sound',), prices).rows}
        told = {choice: Slow(program, choice) for choice in self.costs}
        bounded = [(choice, told[choice].bound()) for choice in self.costs if told[choice].bound() is not None]
        self.pays = {}
        for stages in [(one,) for one in bounded] + [(one, other) for one in bounded for other in bounded]:
            total = 0
            for row in slow.inputs_of(program, box):
                for choice, bound in stages:
                    total += self.costs[choice] + 1
                    if told[choice].decides(bound, row):
                        break
                else:
                    total += last
            self.pays[stages] = total

    def shows(self, value):
        if not self.pays:
            return value is None
        least = min(self.pays.values())
        return any(cost == least and strictly(value, (cost, stages)) for stages, cost in self.pays.items())


def some_signs(chance, most_numbers=4):
    """A program whose first result is a difference that often is wrong."""
    if chance.random() < 0.3:
        return some_program(chance, most_steps=5, most_numbers=most_numbers)
    low, high = chance.choice([(5, 7), (8, 14), (10, 20), (16, 28)])
    ways = [chance.choice(['', '', ' way down', ' way up', ' way zero']) for _ in range(3)]
    lines = ['grid 2 3 ' + chance.choice(['2', '3', '6', '6']) + ' 0', f'input a {low} {high}', f'input b {chance.choice([1, 2, 4])} {chance.choice([4, 5, 7])}']
    if chance.random() < 0.7:
        lines += ['s = a + b' + ways[0], 't = s - a' + ways[1], f'd = t - {chance.randint(1, 6)}' + ways[2]]
    else:
        lines += ['s = a * b' + ways[0], 't = b * ' + chance.choice(['b', 'a', '3']) + ways[1], 'd = s - t' + ways[2]]
    return Program('\n'.join(lines + ['tell d']))


def some_choice(chance, program, most=3):
    """A choice of figures more."""
    names = slow.rounding_steps(program)
    names = chance.sample(names, min(len(names), chance.randint(0, most)))
    return tuple((name, chance.randint(0, 3)) for name in names)


def some_stages(chance, program):
    """One to four stages, often safe."""
    found = []
    for _ in range(chance.randint(1, 4)):
        choice = some_choice(chance, program)
        told = Slow(program, choice).bound() or 0
        found.append((choice, max(0, told + chance.choice([-1, 0, 0, 0, 1, 4]))))
    return tuple(found)


class Against(Case):
    """Held against all inputs, and values near what is told."""

    def test_least_bound(self):
        chance = random.Random(181)
        counts = {'ends': 0, 'nought': 0, 'some': 0}
        for _ in range(220):
            program = some_signs(chance)
            choice = some_choice(chance, program)
            told = Slow(program, choice)
            value = least_bound(program, choice)
            counts['ends' if value[0] == 'ends' else 'some' if value[1] else 'nought'] += 1
            self.assertTrue(told.shows_bound(value), (program.text, choice, value))
            for part in variants(chance, value, 8) + [('bound', 0, ('box',), None)]:
                self.assertIs(shows_least_bound(program, choice, part), told.shows_bound(part))
        self.assertGreater(min(counts.values()), 25, counts)

    def test_signs(self):
        chance = random.Random(182)
        firsts = set()
        for _ in range(150):
            program = some_signs(chance)
            stages, box = some_stages(chance, program), some_box(chance, program)
            told = [Slow(program, choice) for choice, _ in stages]
            counts = [0] * (len(stages) + 1)
            for row in slow.inputs_of(program, box):
                signs = [one.decides(bound, row) for one, (_, bound) in zip(told, stages)]
                first = next((at for at, part in enumerate(signs) if part), None)
                counts[len(stages) if first is None else first] += 1
                firsts.add(first)
                self.same(sign_told(program, stages, row), None if first is None else (first, signs[first]))
            self.same(sign_counts(program, stages, box), tuple(counts))
        self.assertLessEqual({None, 0, 1, 2}, firsts)

    def test_safe(self):
        chance = random.Random(183)
        words = {'safe': 0, 'wrong': 0}
        places = set()
        for _ in range(200):
            program = some_signs(chance)
            stages = some_stages(chance, program)
            value = safe(program, stages)
            words[value[0]] += 1
            places.add(value[1] if value[0] == 'wrong' else None)
            self.assertTrue(shows_stages_safe(program, stages, value))
            for part in variants(chance, value, 8):
                self.assertIs(shows_safe(program, stages, part), shows_stages_safe(program, stages, part))
            if value[0] == 'safe':
                for row in slow.inputs_of(program):
                    found = sign_told(program, stages, row)
                    exact = slow.walk(program, row, slow.rounding_steps(program))[0].get(program.told[0])
                    self.assertTrue(found is None or found[1] == sign(exact))
        self.assertGreater(min(words.values()), 30)
        self.assertLessEqual({0, 1, 2}, places)

    def test_cheapest_stages(self):
        chance = random.Random(184)
        counts = {0: 0, 1: 0, 2: 0}
        for number in range(60):
            program = some_signs(chance, most_numbers=3)
            names = slow.rounding_steps(program)
            if not names:
                continue
            if number % 3 == 0:
                program = Program(SIDES.text.replace('5 7', chance.choice(['5 7', '4 7', '3 6'])).replace('b * b', chance.choice(['b * b', 'b * 5'])))
                names = ['p', 'q']
            names = chance.sample(names, min(len(names), 2 if number % 6 < 3 else 1))
            prices = tuple((name, chance.choice([1, 3, 9])) for name in names)
            box, last = some_box(chance, program), chance.choice([1, 20, 300, 999])
            told = Staged(program, prices, last, box)
            value = cheapest_stages(program, prices, last, box)
            counts[0 if value is None else len(value[1])] += 1
            self.assertTrue(told.shows(value), (program.text, prices, last, box, value))
            others = [(told.pays[stages], stages) for stages in chance.sample(list(told.pays), min(8, len(told.pays)))]
            for part in variants(chance, value, 8) + others + [None]:
                self.assertIs(shows_cheapest_stages(program, prices, last, box, part), told.shows(part))
        self.assertGreater(min(counts.values()), 3, counts)


class Edges(Case):
    """What the section names."""

    def test_the_example(self):
        self.same(least_bound(SIDES, ())[:2], ('bound', 0))
        self.same(least_bound(SIDES, ())[3], None)
        self.same([sign_told(SIDES, (((), 0),), row) for row in ((6, 5), (5, 6), (5, 7), (7, 7))], [(0, 1), None, (0, -1), None])
        finer = ((), 0), ((('p', 3), ('q', 3)), 0)
        self.same([sign_counts(SIDES, finer, WHOLE), sign_counts(SIDES, (((), 8),), WHOLE)], [(5, 1, 3), (1, 8)])
        self.same(sign_told(SIDES, finer, (5, 6)), (1, -1))
        self.same(safe(SIDES, finer)[0], 'safe')
        self.same(shows_safe(SIDES, finer, safe(SIDES, finer)), True)

    def test_above_the_bound(self):
        # At 5, 7 the difference is -16: it is decided by bounds below 16.
        for bound, found in ((15, (0, -1)), (16, None), (17, None), (10 ** 30, None)):
            self.same(sign_told(SIDES, (((), bound),), (5, 7)), found)

    def test_wrong_signs(self):
        # 8 + 1 becomes 8, so t is 0 and d is -2, which is right; 14 + 1 becomes 16, and d 0; 14 + 3 is 16, d is 0, exactly 1.
        # 14 + 5 becomes 20, and d is 4; 10 + 1 becomes 12, t is 2; 8 + 3 becomes 12, t is 4 and d is 2: exactly 1.
        told = least_bound(WRONG, ())
        self.same(told[:2], ('bound', 0))
        low = Program(WRONG.text.replace('d = t - 2', 'd = t - 3'))
        told = least_bound(low, ())
        # 12 + 3 becomes 16 (15 lies between 14 and 16), t is 4, d is 1: exactly 0.
        self.same(told[:2], ('bound', 1))
        self.same(shows_least_bound(low, (), told), True)
        right = told[:3] + ((8, 3),)
        self.same(shows_least_bound(low, (), right), True)
        for wrong in (told[:3] + (None,), told[:3] + ((8, 1),), told[:3] + ([8, 3],), ('bound', True) + right[2:], ('bound', 2) + right[2:],
                      ('bound', 0) + right[2:], ('bound', 0, told[2], None), ('bound', 1, ('box',), (14, 5)), right[:3], ('ends', (8, 3)),
                      ('bound', -1, told[2], (8, 3)), ('bounds',) + right[1:], None, right + (None,)):
            self.same(shows_least_bound(low, (), wrong), False)
        self.same(least_bound(low, (('s', 3),))[:2], ('bound', 0))
        self.same(safe(low, ((((('s', 3),)), 0), ((), 0), ((), 0)))[:2], ('wrong', 1))
        self.same(safe(low, (((), 1), ((), 2), ((('s', 3),), 0), ((), 99)))[0], 'safe')
        for value, so in ((('wrong', 1, (8, 3)), True), (('wrong', 2, (8, 3)), False), (('wrong', 0, (8, 3)), False), (('wrong', 1, (8, 1)), False),
                          (('wrong', True, (8, 3)), False), (('wrong', -1, (8, 3)), False), (('wrong', 3, (8, 3)), False), (('wrong', 1), False),
                          (('safe', (('box',),) * 3), False), (('wrong', '1', (8, 3)), False), (('wrong', 1, (8, True)), False)):
            self.same(shows_safe(low, ((((('s', 3),)), 0), ((), 0), ((), 0)), value), so)

    def test_runs_that_do_not_tell(self):
        over = Program('grid 2 2 2 0\ninput a 6 8\ns = a + 6\nd = s - a\ntell d')
        told = least_bound(over, ())
        self.same(told, ('ends', (8,)))
        self.same([shows_least_bound(over, (), value) for value in (('ends', (8,)), ('ends', (6,)), ('ends', 8), ('ends',), ('bound', 0, ('box',), None))],
                  [True, False, False, False, False])
        self.same([sign_told(over, (((), 0),), row) for row in ((6,), (8,))], [(0, 1), None])
        self.same(sign_counts(over, (((), 0), ((('s', 3),), 0)), ((6, 8),)), (1, 1, 0))
        self.same(safe(over, (((), 99),)), ('wrong', 0, (8,)))
        self.same(shows_safe(over, (((), 99),), ('wrong', 0, (6,))), False)
        self.same(cheapest_stages(over, (('d', 1),), 5, ((6, 6),)), None)
        self.same([shows_cheapest_stages(over, (('d', 1),), 5, ((6, 6),), value) for value in (None, (0, ()), False, ())], [True, False, False, False])
        # The box may have none of the inputs by which a choice has no bound.
        found = cheapest_stages(over, (('s', 1),), 5, ((6, 6),))
        self.assertIn(found, [(2 + more, (((('s', 1 + more),), 0),)) for more in range(1)] + [(3, ((('s', 1),), 0))])

    def test_exact_runs_that_do_not_come_so_far(self):
        told = least_bound(GONE, ())
        self.same(told, ('ends', (7,)))
        self.same(shows_least_bound(GONE, (), ('ends', (6,))), False)
        # Where another result is the first one, it is come to.
        other = Program(GONE.text.replace('tell q d', 'tell d q'))
        self.same(least_bound(other, ())[:2], ('bound', 1))
        self.same(least_bound(other, (('s', 1),))[0], 'ends')

    def test_no_bound_is_needed(self):
        for choice in ((), (('s', 1),), (('s', 3), ('t', 3), ('d', 3))):
            told = least_bound(Program(WRONG.text.replace('- a', '- 1')), choice)
            self.same(told[:2] + told[3:], ('bound', 0, None))
        self.same([shows_least_bound(SIDES, (), ('bound', 0, least_bound(SIDES, ())[2], part)) for part in (None, (5, 6), (5, 5), False, 0)],
                  [True, False, False, False, False])

    def test_the_same_stage_twice(self):
        # The one input is decided at once, so a second stage, also the same one, costs nothing.
        price = (('s', 1),)
        program = Program('grid 2 3 4 0\ninput a 1 3\ns = a + 1\ntell s')
        self.same(cheapest_stages(program, price, 9, ((1, 3),))[0], 3)
        stage = ((('s', 0),), 0)
        for stages, so in (((stage,), True), ((stage, stage), True), ((stage, ((('s', 3),), 0)), True), ((((('s', 3),), 0), stage), False),
                           ((stage,) * 3, False), ((), False), ((((), 0),), False), (((((('s', 0),)), 1),), False), ([stage], False)):
            self.same(shows_cheapest_stages(program, price, 9, ((1, 3),), (3, stages)), so)
        self.same(shows_cheapest_stages(program, price, 9, ((1, 3),), (4, (stage,))), False)
        self.same(shows_cheapest_stages(program, price, 9, ((1, 1),), (1, (stage,))), True)
        self.same(shows_cheapest_stages(program, price, 9, ((1, 1),), (True, (stage,))), False)

    def test_what_is_paid(self):
        # 0 is never decided: it pays for all stages, and last.
        program = Program('grid 2 3 4 0\ninput a 0 1\ns = a + 0\ntell s')
        self.same(cheapest_stages(program, (('s', 7),), 20, ((0, 1),)), (1 + 20 + 1, (((('s', 0),), 0),)))
        self.same(cheapest_stages(program, (('s', 7),), 999, ((0, 0),)), (1000, (((('s', 0),), 0),)))

    def test_many_inputs(self):
        program = Program('grid 2 4 6 0\ninput a 0 40\ninput b 0 40\ns = a + b\ntell s')
        box = ((0, 16), (0, 32))
        self.refused_with(ManyInputs, 17 * 25, sign_counts, program, (((), 0),), box)
        self.refused_with(ManyInputs, 17 * 25, cheapest_stages, program, (('s', 1),), 5, box)
        self.refused_with(ManyInputs, 17 * 25, shows_cheapest_stages, program, (('s', 1),), 5, box, None)
        self.same(sign_counts(program, (((), 0),), ((0, 15), (0, 32))), (399, 1))
        self.same(cheapest_stages(program, (('s', 1),), 5, ((0, 15), (0, 32)))[0], 400 + 5)
        line = Program('grid 10 3 0 0\ninput a 0 999\ns = a - 1\ntell s')
        self.same(sign_counts(line, (((), 0),), ((0, 399),)), (399, 1))
        self.refused_with(ManyInputs, 401, sign_counts, line, (((), 0),), ((0, 400),))
        self.refused_with(ManyInputs, 401, cheapest_stages, line, (('s', 1),), 5, ((0, 400),))

    def test_values_of_any_kind(self):
        stages = (((), 0),)
        tree = least_bound(SIDES, ())[2]
        for value in wrong_values():
            self.same(shows_least_bound(SIDES, (), value), False)
            self.same(shows_least_bound(SIDES, (), ('bound', value, tree, None)), False)
            self.same(shows_least_bound(SIDES, (), ('bound', 0, value, None)), False)
            self.same(shows_least_bound(SIDES, (), ('bound', 0, tree, value)), value is None)
            self.same(shows_least_bound(GONE, (), ('ends', value)), False)
            self.same(shows_safe(SIDES, stages, value), False)
            self.same(shows_safe(SIDES, stages, ('safe', value)), False)
            self.same(shows_safe(SIDES, stages, ('safe', (value,))), False)
            self.same(shows_safe(GONE, (((), 9),), ('wrong', value, (7,))), False)
            self.same(shows_safe(GONE, (((), 9),), ('wrong', 0, value)), False)
            self.same(shows_cheapest_stages(SIDES, (('p', 1),), 5, WHOLE, value), False)
        self.same(shows_safe(GONE, (((), 9),), ('wrong', 0, (7,))), True)


class Refused(Case):
    """Wrong arguments, the first error first."""

    def test_choices(self):
        wrong = ['s', ['p'], ('p', 1), (['p', 1],), (('p', 4),), (('p', -1),), (('p', True),), (('p',),), (('a', 1),), (('x', 1),),
                 (('p', 1), ('p', 1)), (('p', 1, 1),), [('p', 1)], (('p', '1'),)]
        for value in [value for value in wrong_values() if value != ()] + wrong:
            self.refused(BadChoices, value, least_bound, SIDES, value)
            self.refused(BadChoices, value, shows_least_bound, SIDES, value, None)
        program = Program('grid 2 29 2 0\ninput a 1 2\ns = a + 1\ntell s')
        wrong = (('s', 2),)
        self.refused(BadChoices, wrong, least_bound, program, wrong)
        self.same(least_bound(program, (('s', 1),))[:2], ('bound', 0))

    def test_stages(self):
        stage = ((), 0)
        wrong = [stage, [stage], (stage,) * 5, (((), -1),), (((), True),), (((), '0'),), (((), None),), (([], 0),), (((('p', 4),), 0),),
                 ((('p', 1), 0),), (((),),), (((), 0, 0),), ([(), 0],), (stage, None), ((0, ()),), (((('a', 1),), 0),)]
        for value in wrong_values() + wrong:
            self.refused(BadStages, value, sign_told, SIDES, value, None)
            self.refused(BadStages, value, sign_counts, SIDES, value, None)
            self.refused(BadStages, value, safe, SIDES, value)
            self.refused(BadStages, value, shows_safe, SIDES, value, None)
        self.same(safe(SIDES, (stage,) * 4)[0], 'safe')

    def test_inputs_and_boxes(self):
        for value in wrong_values() + [(5,), (5, 5, 5), (4, 5), (5, 8), (True, 5), [5, 5], ('5', 5), 5]:
            self.refused(BadInputs, value, sign_told, SIDES, (((), 0),), value)
        for value in wrong_values() + [((5, 7),), ((5, 7), (4, 7)), ((5, 7), (6, 5)), [(5, 7), (5, 7)], ((5, 7), [5, 7])]:
            self.refused(BadBox, value, sign_counts, SIDES, (((), 0),), value)
            self.refused(BadBox, value, cheapest_stages, SIDES, (('p', 1),), 1, value)
            self.refused(BadBox, value, shows_cheapest_stages, SIDES, (('p', 1),), 999, value, None)

    def test_prices_and_numbers(self):
        for value in wrong_values() + [(('p', 0),), (('p', 100),), (('p', 1), ('p', 1)), (('a', 1),), (('p', 1), ('q', 1), ('d', 1)), [('p', 1)]]:
            self.refused(BadPrices, value, cheapest_stages, SIDES, value, None, None)
            self.refused(BadPrices, value, shows_cheapest_stages, SIDES, value, None, None, None)
        for value in wrong_values() + [0, 1000, -1, '5']:
            self.refused(BadNumber, value, cheapest_stages, SIDES, (('p', 1),), value, None)
            self.refused(BadNumber, value, shows_cheapest_stages, SIDES, (('p', 1),), value, None, None)
        program = Program('grid 2 28 2 0\ninput a 1 2\ns = a + 1\ntell s')
        prices = (('s', 1),)
        self.refused(BadPrices, prices, cheapest_stages, program, prices, 5, ((1, 2),))

    def test_named_arguments(self):
        told = least_bound(program=SIDES, choice=())
        self.same(shows_least_bound(program=SIDES, choice=(), value=told), True)
        self.same(sign_told(program=SIDES, stages=(((), 0),), inputs=(5, 6)), None)
        self.same(sign_counts(program=SIDES, stages=(((), 8),), box=WHOLE), (1, 8))
        told = safe(program=SIDES, stages=(((), 0),))
        self.same(shows_safe(program=SIDES, stages=(((), 0),), value=told), True)
        told = cheapest_stages(program=SIDES, prices=(('p', 1),), last=5, box=WHOLE)
        self.same(shows_cheapest_stages(program=SIDES, prices=(('p', 1),), last=5, box=WHOLE, value=told), True)


if __name__ == '__main__':
    unittest.main()
