"""Section 15: one input, and the fewest boxes."""

import random
import unittest
from itertools import combinations

from roundedsteps.errors import BadClaim, BadInputs, Broken, ManyInputs
from roundedsteps.fewest import fewest, pins, reaches, shows_fewest, shows_pins
from roundedsteps.programs import Program
from roundedsteps.proving import proved
from tests import slow, slow_cuts
from tests.helping import Case, some_claims, some_program, variants, wrong_values

TWICE = Program('grid 10 1 1 0\ninput a 1 9\ns = a + a\nt = s - a\ntell t')
WISH = ('within', 't', 1, 10)
TWO = Program('grid 2 3 2 0\ninput a 0 7\ninput b 0 7\ntell a')
THREE = Program('grid 2 3 2 0\ninput a 0 7\ninput b 0 7\ninput c 0 7\ntell a')


def some_line(chance, most_numbers=9):
    """A program of one input."""
    while True:
        program = some_program(chance, most_steps=5, most_numbers=most_numbers)
        if len(program.inputs) == 1:
            return program


class Slow:
    """A claim about a program of one input, all stretches gone through."""

    def __init__(self, program, claim):
        self.numbers = [row[0] for row in slow.inputs_of(program)]
        self.so = {(low, high): slow_cuts.decided(program, claim, ((low, high),)) == 'so'
                   for low in self.numbers for high in self.numbers if low <= high}
        self.broken = [(number,) for number in self.numbers if not slow.is_so(program, claim, (number,))]

    def reaches(self, low):
        return max([high for high in self.numbers if low <= high and self.so[low, high]], default=None)

    def least(self):
        """How many stretches there are at least, all ways of stretching being gone through; None if it is broken."""
        if self.broken:
            return None
        least = {len(self.numbers): 0}
        for first in reversed(range(len(self.numbers))):
            least[first] = min(1 + least[last + 1] for last in range(first, len(self.numbers))
                               if self.so[self.numbers[first], self.numbers[last]])
        return least[0]

    def most_pins(self):
        """The greatest number of numbers no two of which stand in one stretch on which it is so."""
        for many in range(len(self.numbers), 0, -1):
            if any(self.are_apart(row) for row in combinations(self.numbers, many)):
                return many

    def are_apart(self, row):
        return not any(so and sum(low <= number <= high for number in row) > 1 for (low, high), so in self.so.items())

    def shows_fewest(self, value):
        if type(value) is not tuple or len(value) != 2:
            return False
        if value[0] == 'broken':
            return type(value[1]) is tuple and all(type(part) is int for part in value[1]) and value[1] in self.broken
        if value[0] != 'stretches' or type(value[1]) is not tuple:
            return False
        covered = []
        for part in value[1]:
            if type(part) is not tuple or [type(end) for end in part] != [int, int] or not self.so.get(part):
                return False
            covered += [number for number in self.numbers if part[0] <= number <= part[1]]
        return covered == self.numbers and len(value[1]) == self.least()

    def shows_pins(self, value):
        if type(value) is not tuple or any(type(part) is not int or part not in self.numbers for part in value):
            return False
        return list(value) == sorted(set(value)) and len(value) == self.least() and self.are_apart(value)


class Against(Case):
    """All sorts of claims about small programs, all ways of stretching gone through."""

    def test_all(self):
        chance = random.Random(71)
        found, lengths = set(), set()
        for _ in range(150):
            program = some_line(chance)
            for claim in chance.sample(some_claims(chance, program), 3):
                told = Slow(program, claim)
                for number in told.numbers:
                    self.same(reaches(program, claim, number), told.reaches(number))
                stretches = fewest(program, claim)
                self.assertEqual(stretches[0], proved(program, claim)[0].replace('cut', 'stretches'))
                self.assertTrue(told.shows_fewest(stretches))
                for value in variants(chance, stretches, 8):
                    self.assertIs(shows_fewest(program, claim, value), told.shows_fewest(value))
                found.add((claim[0], stretches[0]))
                if told.broken:
                    for call in (pins, lambda *row: shows_pins(*row, ())):
                        self.assertIn(self.error_of(call, program, claim).value, told.broken)
                        self.assertIs(type(self.error_of(call, program, claim)), Broken)
                    continue
                lengths.add(len(stretches[1]))
                row = pins(program, claim)
                self.assertTrue(told.shows_pins(row))
                self.assertEqual(len(row), told.most_pins())
                for value in variants(chance, row, 8):
                    self.assertIs(shows_pins(program, claim, value), told.shows_pins(value))
        kinds = {'sound', 'within', 'atmost', 'same', 'plain', 'nearest', 'off', 'sure', 'straight'}
        self.assertEqual(found, {(kind, word) for kind in kinds for word in ('stretches', 'broken')})
        self.assertLessEqual({1, 2, 3, 4}, lengths)

    def test_all_stretches_and_all_pins(self):
        chance = random.Random(72)
        right = 0
        for _ in range(25):
            program = some_line(chance, most_numbers=6)
            claim = chance.choice(some_claims(chance, program))
            told = Slow(program, claim)
            cuts = [()] + [row for many in range(1, len(told.numbers)) for row in combinations(range(1, len(told.numbers)), many)]
            for row in cuts:
                places = [0, *row, len(told.numbers)]
                value = ('stretches', tuple((told.numbers[one], told.numbers[other - 1]) for one, other in zip(places, places[1:])))
                self.assertIs(shows_fewest(program, claim, value), told.shows_fewest(value))
                right += told.shows_fewest(value)
            for many in range(len(told.numbers) + 1):
                for row in combinations(told.numbers, many):
                    if not told.broken:
                        self.assertIs(shows_pins(program, claim, row), told.shows_pins(row))
        self.assertGreater(right, 10)


class Edges(Case):
    """What the section names."""

    def test_the_example(self):
        self.same([reaches(TWICE, WISH, low) for low in range(1, 10)], [4, 4, 5, 7, 7, 9, 9, 9, 9])
        self.same(shows_fewest(TWICE, WISH, ('stretches', ((1, 4), (5, 7), (8, 9)))), True)
        for rows in (((1, 4), (5, 6), (7, 7), (8, 9)), ((1, 4), (5, 8), (9, 9)), ((1, 4), (5, 7)), ((5, 7), (1, 4), (8, 9)),
                     ((1, 4), (4, 7), (8, 9)), ((1, 3), (5, 7), (8, 9)), ((0, 4), (5, 7), (8, 9)), (), ((1, 4), (5, 7), (8, 10)),
                     [(1, 4), (5, 7), (8, 9)], ([1, 4], (5, 7), (8, 9)), ((True, 4), (5, 7), (8, 9)), ((1, 4), (5, 7), (8, 9), None),
                     ((1, 4, 5), (5, 7), (8, 9)), None, 3):
            self.same(shows_fewest(TWICE, WISH, ('stretches', rows)), False)
        self.same([shows_pins(TWICE, WISH, row) for row in ((1, 5, 8), (4, 7, 9), (1, 5, 7), (1, 4, 8), (1, 5), (1, 5, 8, 9), (8, 5, 1),
                                                           [1, 5, 8], (True, 5, 8), (1, 5, 10), (1, 5, '8'), (2, 6, 9), (2, 5, 9))],
                  [True, False, False, False, False, False, False, False, False, False, False, False, True])

    def test_broken(self):
        self.same(fewest(TWICE, ('same', 't', 'a')), ('broken', (6,)))
        self.same([shows_fewest(TWICE, ('same', 't', 'a'), ('broken', value)) for value in ((6,), (5,), (7,), 6, (6, 6), [6], (True,))],
                  [True, False, True, False, False, False, False])
        self.same(reaches(TWICE, ('same', 't', 'a'), 6), None)
        self.same(reaches(TWICE, ('same', 't', 'a'), 1), 4)
        self.refused_with(Broken, (6,), pins, TWICE, ('same', 't', 'a'))
        self.refused_with(Broken, (6,), shows_pins, TWICE, ('same', 't', 'a'), None)

    def test_one_number(self):
        program = Program('grid 2 3 2 0\ninput a 5 5\ns = a + 6\ntell s')
        self.same(fewest(program, ('sound',)), ('stretches', ((5, 5),)))
        self.same(pins(program, ('sound',)), (5,))
        self.same(reaches(program, ('plain', 's'), 5), None)
        self.same(fewest(program, ('plain', 's')), ('broken', (5,)))

    def test_up_to_the_greatest_number(self):
        program = Program('grid 2 3 2 0\ninput a -28 28\ns = least a 7\ntell s')
        self.same(fewest(program, ('within', 's', -28, 7)), ('stretches', ((-28, 28),)))
        self.same(reaches(program, ('sound',), 28), 28)
        self.same([shows_pins(program, ('sound',), (number,)) for number in (-28, 0, 28, 9)], [True, True, True, False])

    def test_a_great_range(self):
        program = Program(f'grid 10 30 60 0\ninput a {-10 ** 89} {10 ** 89}\ns = a - 1 way down\nt = s + 1\ntell t')
        told = fewest(program, ('same', 't', 'a'))
        self.same(told, ('broken', (-10 ** 89,)))
        program = Program(f'grid 10 30 60 0\ninput a 0 {10 ** 89}\ns = least a 5\nt = most a 5\nu = choose a 5 s t\ntell u')
        told = fewest(program, ('same', 'u', 'a'))
        self.same(told, ('stretches', ((0, 4), (5, 10 ** 89))))
        for low, high in ((3, 4), (2, 3), (4, 5), (5, 6)):
            value = ('stretches', ((0, low), (high, 10 ** 89)))
            self.same(shows_fewest(program, ('same', 'u', 'a'), value), (low, high) == (4, 5))
        self.same(pins(program, ('same', 'u', 'a')), (0, 5))
        self.same(shows_pins(program, ('same', 'u', 'a'), (4, 10 ** 88)), True)
        self.same(shows_pins(program, ('same', 'u', 'a'), (5, 10 ** 88)), False)


class Refused(Case):
    """Wrong arguments, the first error first."""

    calls = ((reaches, (None,)), (fewest, ()), (shows_fewest, (None,)), (pins, ()), (shows_pins, (None,)))

    def test_many_inputs(self):
        for call, told in self.calls:
            self.refused_with(ManyInputs, 2, call, TWO, None, *told)
            self.refused_with(ManyInputs, 3, call, THREE, ('sound',), *told)

    def test_claims(self):
        for value in wrong_values() + [('sound', 'a'), ('same', 't'), ('straight', 't'), ['sound'], 'sound', (('sound',),)]:
            for call, told in self.calls:
                self.refused(BadClaim, value, call, TWICE, value, *told)

    def test_lows(self):
        for value in wrong_values() + [0, 10, 20, -1, (1,)]:
            self.refused_with(BadInputs, (value,), reaches, TWICE, WISH, value)
            self.assertIs(self.error_of(reaches, TWICE, WISH, value).value[0], value)

    def test_other_values(self):
        for value in wrong_values() + [('stretches',), ('broken',), ('stretches', ()), ('stretches', None), ('broken', (1,)),
                                       ('cut', ('box',)), ('stretches', (((1, 4), (5, 7), (8, 9)),))]:
            self.same(shows_fewest(TWICE, WISH, value), False)
            self.same(shows_pins(TWICE, WISH, value), False)

    def test_named_arguments(self):
        self.same(reaches(program=TWICE, claim=WISH, low=4), 7)
        told = fewest(program=TWICE, claim=WISH)
        self.same(shows_fewest(program=TWICE, claim=WISH, value=told), True)
        row = pins(program=TWICE, claim=WISH)
        self.same(shows_pins(program=TWICE, claim=WISH, value=row), True)


if __name__ == '__main__':
    unittest.main()
