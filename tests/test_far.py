"""Section 27: stuck states and far laps."""

import random
import unittest

from roundedsteps.errors import BadFold, BadLaps, BadNumber, BadPart, BadStart, BadWay
from roundedsteps.far import behind, drift, ring, stall, stuck
from roundedsteps.folds import folded
from roundedsteps.grids import Grid
from roundedsteps.programs import Program
from roundedsteps.rounding import rounded
from tests import slow
from tests.helping import Case, some_number, wrong_values
from tests.test_folds import ADDING, SHORT, Slow, some_fold

TINY = Grid(2, 3, 4, 0)
WAYS = ('near', 'down', 'up', 'zero')
LAPS = 10 ** 18


def lap_by_lap(grid, start, part, way, most):
    """The states of sums, until one is stuck or so many laps are gone; and the lap that is over, or None."""
    states = [start]
    while len(states) <= most:
        number = slow.rounded(grid, states[-1] + part, way)
        if number is None:
            return states, len(states) - 1
        if number == states[-1]:
            break
        states.append(number)
    return states, None


class Folds(Case):
    """Held against laps one by one."""

    def test_stuck(self):
        chance = random.Random(201)
        found = set()
        for _ in range(400):
            told = Slow(some_fold(chance))
            part = chance.choice(told.parts)
            states = [state for state in told.states if told.lap(state, part) == (None, state)]
            self.same(stuck(told.program, part), told.lot(states))
            found.add(min(3, len(told.lot(states))))
        self.assertEqual(found, {0, 1, 2, 3})

    def test_ring_and_behind(self):
        chance = random.Random(202)
        words, lengths = {'ring': 0, 'left': 0, 'over': 0, 'nought': 0}, set()
        for _ in range(900):
            told = Slow(some_fold(chance))
            start, part = chance.choice(told.states), chance.choice(told.parts)
            many = 2 * len(told.states) + 2
            end = told.folded(start, (part,) * many)
            found = ring(told.program, start, part)
            states = end[-1]
            if end[0] != 'tells':
                words[end[0][0]] += 1
                self.same(found, end[:2])
                for laps in range(len(states)):
                    self.same(behind(told.program, start, part, laps), ('state', states[laps]))
                for laps in (len(states), len(states) + 1, LAPS):
                    self.same(behind(told.program, start, part, laps), end[:2])
                continue
            words['ring'] += 1
            first, length = min((one, other - one) for one in range(len(told.states) + 1) for other in range(one + 1, one + len(told.states) + 1)
                                if states[one] == states[other])
            self.same(found, ('ring', first, length))
            lengths.add((min(first, 2), min(length, 3)))
            for laps in range(0, many, 3):
                self.same(behind(told.program, start, part, laps), ('state', states[laps]))
            laps = chance.randint(10 ** 6, LAPS)
            self.same(behind(told.program, start, part, laps), ('state', states[first + (laps - first) % length]))
        self.assertGreater(min(words.values()), 10, words)
        self.assertLessEqual({(0, 1), (1, 1), (2, 1), (0, 2), (0, 3), (1, 2)}, lengths)

    def test_the_example(self):
        self.same([stuck(ADDING, 3), ring(ADDING, 6, 3), behind(ADDING, 6, 3, 10 ** 12), behind(SHORT, 6, 3, 9)],
                  [((32, 112),), ('ring', 7, 1), ('state', 32), (('left', 24), 4)])
        self.same([behind(ADDING, 6, 3, laps) for laps in (0, 1, 6, 7, 8, LAPS)], [('state', number) for number in (6, 8, 28, 32, 32, 32)])
        self.same([behind(SHORT, 6, 3, laps) for laps in (4, 5, LAPS)], [('state', 20), (('left', 24), 4), (('left', 24), 4)])
        self.same(ring(SHORT, 6, 3), (('left', 24), 4))
        self.same(stuck(SHORT, 3), ())

    def test_rings_of_several_states(self):
        # 7 less the state: 1, 6, 1, 6, and so on.
        turning = Program('grid 2 3 4 0\ninput s 0 7\ninput p 7 7\nr = p - s\ntell r')
        self.same([ring(turning, 1, 7), stuck(turning, 7)], [('ring', 0, 2), ()])
        self.same([behind(turning, 1, 7, laps) for laps in (LAPS, LAPS - 1)], [('state', 1), ('state', 6)])
        # 16 becomes 8, 4, 2, 1, and then 0 and 0 again.
        halving = Program('grid 2 3 4 0\ninput s 0 16\ninput p 2 2\nr = s / p\ntell r')
        self.same([ring(halving, 16, 2), ring(halving, 0, 2)], [('ring', 5, 1), ('ring', 0, 1)])

    def test_far_laps_agree_with_folded(self):
        for start in (0, 5, 16, 28, 112):
            for part in (1, 2, 3):
                for laps in (0, 1, 5, 40, 4096):
                    self.same(behind(ADDING, start, part, laps), ('state', folded(ADDING, start, (part,) * laps)[1][-1]))


class Sums(Case):
    """drift and stall, lap by lap on small grids, and on great ones by what a lap does there."""

    def test_lap_by_lap(self):
        chance = random.Random(203)
        found = set()
        for _ in range(3000):
            grid = Grid(chance.choice([2, 2, 3, 4, 5, 10]), chance.randint(1, 4), chance.randint(0, 7), chance.choice([0, 2]))
            start, part, way = some_number(chance, grid), some_number(chance, grid), chance.choice(WAYS)
            states, over = lap_by_lap(grid, start, part, way, 3000)
            if over is None and len(states) > 3000:
                continue
            for laps in {0, 1, 2, 3, len(states) - 1, len(states), chance.randint(0, len(states)), chance.randint(0, LAPS), LAPS}:
                wanted = ('over', over) if over is not None and laps > over else ('state', states[min(laps, len(states) - 1)])
                self.same(drift(grid, start, part, way, laps), wanted)
            self.same(stall(grid, start, part, way), ('over', over) if over is not None else ('stalls', states[-1], len(states) - 1))
            found.add((way, over is None, min(2, len(states) - 1), (part > 0) - (part < 0)))
        for way in WAYS:
            for sign in (-1, 1):
                # What goes on downwards, rounded down, is over at last, as is what goes on upwards, rounded up.
                ends = (False,) if (way, sign) in (('down', -1), ('up', 1)) else (True, False)
                self.assertEqual({row[1] for row in found if row[0] == way and row[3] == sign}, set(ends))
                self.assertLessEqual({(way, told, many, sign) for told in ends for many in (0, 1, 2)}, found)

    def test_all_of_some_grids(self):
        for grid in (Grid(2, 2, 3, 0), Grid(3, 1, 2, 0), Grid(2, 3, 2, 0)):
            numbers = slow.all_numbers(grid.base, grid.figures, grid.reach)
            for start in numbers:
                for part in numbers:
                    for way in WAYS:
                        states, over = lap_by_lap(grid, start, part, way, 10 ** 6)
                        self.same(stall(grid, start, part, way), ('over', over) if over is not None else ('stalls', states[-1], len(states) - 1))

    def test_the_example(self):
        self.same([stall(TINY, 0, 1, 'near'), stall(TINY, 0, 1, 'up'), drift(TINY, 0, 1, 'up', 10), drift(Grid(2, 20, 40, 0), 0, 1, 'near', 10 ** 15)],
                  [('stalls', 8, 8), ('over', 23), ('state', 12), ('state', 1048576)])
        self.same([drift(TINY, 0, 1, 'up', laps) for laps in (22, 23, 24, LAPS)], [('state', 96), ('state', 112), ('over', 23), ('over', 23)])

    def test_nought_as_part(self):
        for way in WAYS:
            self.same([stall(TINY, 20, 0, way), drift(TINY, 20, 0, way, LAPS), drift(TINY, -112, 0, way, 0)],
                      [('stalls', 20, 0), ('state', 20), ('state', -112)])

    def test_great_grids_in_two_parts(self):
        chance = random.Random(204)
        words = {'stalls': 0, 'over': 0}
        for _ in range(300):
            base = chance.choice([2, 3, 7, 10])
            grid = Grid(base, 30, chance.choice([0, 5, 30, 60]), 0)
            start = grid.number(chance.choice([1, -1]) * chance.randint(0, grid.rank(grid.greatest)))
            part = grid.number(chance.choice([1, -1]) * chance.randint(0, min(grid.rank(grid.greatest), base ** chance.randint(1, 45))))
            way = chance.choice(WAYS)
            told = stall(grid, start, part, way)
            words[told[0]] += 1
            laps = told[-1]
            cut = chance.randint(0, min(LAPS, laps))
            half = drift(grid, start, part, way, cut)
            self.assertEqual(half[0], 'state')
            # The laps that are left lead to the same end.
            left = stall(grid, half[1], part, way)
            self.same(left, ('over', laps - cut) if told[0] == 'over' else ('stalls', told[1], laps - cut))
            more = chance.randint(0, LAPS - cut)
            whole = drift(grid, start, part, way, cut + more)
            found = drift(grid, half[1], part, way, more)
            self.same(whole, found if found[0] == 'state' else ('over', cut + found[1]))
            if told[0] == 'stalls':
                self.same(rounded(grid, told[1] + part, 1, way, 0), told[1])
                if 0 < laps <= LAPS:
                    self.same(drift(grid, start, part, way, laps), ('state', told[1]))
                    self.assertNotEqual(drift(grid, start, part, way, laps - 1), ('state', told[1]))
            elif laps < LAPS:
                last = drift(grid, start, part, way, laps)
                self.same(rounded(grid, last[1] + part, 1, way, 0), None)
                self.same(drift(grid, start, part, way, laps + 1), told)
        self.assertGreater(min(words.values()), 60)

    def test_steps_of_great_grids(self):
        # From 10 ** 30 on numbers stand ten apart: upwards each lap goes ten, near it goes none.
        grid = Grid(10, 30, 60, 0)
        start = 10 ** 30
        self.same(drift(grid, start, 1, 'up', 10 ** 18), ('state', start + 10 ** 19))
        self.same(stall(grid, start, 1, 'near'), ('stalls', start, 0))
        self.same(stall(grid, start - 10 ** 6, 1, 'near'), ('stalls', start, 10 ** 6))
        self.same(drift(grid, start, 6, 'near', 10 ** 18), ('state', start + 10 ** 19))
        self.same(drift(grid, -start, -6, 'near', 10 ** 18), ('state', -start - 10 ** 19))
        self.same(drift(grid, -start, -6, 'zero', 10 ** 18), ('state', -start))
        self.same(drift(grid, -start, -16, 'zero', 10 ** 18), ('state', -start - 10 ** 19))
        # Of a tie the first step goes to an even multiple, and 15 then are two tens each lap.
        self.same(drift(grid, start + 10, 15, 'near', 1), ('state', start + 20))
        self.same(drift(grid, start + 20, 15, 'near', 10 ** 17), ('state', start + 20 + 20 * 10 ** 17))
        self.same(drift(grid, start + 10, 15, 'near', 10 ** 17), ('state', start + 20 * 10 ** 17))

    def test_turned_about(self):
        chance = random.Random(205)
        back = {'near': 'near', 'zero': 'zero', 'up': 'down', 'down': 'up'}
        for _ in range(300):
            grid = Grid(chance.choice([2, 3, 10]), chance.randint(1, 12), chance.randint(0, 20), 0)
            start, part, way = some_number(chance, grid), some_number(chance, grid), chance.choice(WAYS)
            told, turned = stall(grid, start, part, way), stall(grid, -start, -part, back[way])
            self.same(turned, told if told[0] == 'over' else ('stalls', -told[1], told[2]))
            laps = chance.randint(0, 1000)
            told, turned = drift(grid, start, part, way, laps), drift(grid, -start, -part, back[way], laps)
            self.same(turned, told if told[0] == 'over' else ('state', -told[1]))

    def test_multiplied_with_the_base(self):
        chance = random.Random(206)
        many = 0
        for _ in range(400):
            grid = Grid(chance.choice([2, 3, 10]), chance.randint(1, 12), chance.randint(2, 30), 0)
            start, part, way = some_number(chance, grid), some_number(chance, grid), chance.choice(WAYS)
            laps = chance.randint(0, 10 ** chance.randint(1, 18))
            told = drift(grid, start, part, way, laps)
            if max(abs(number) for number in (start, part, told[1])) * grid.base <= grid.greatest and told[0] == 'state':
                self.same(drift(grid, grid.base * start, grid.base * part, way, laps), ('state', grid.base * told[1]))
                many += 1
        self.assertGreater(many, 100)


class Refused(Case):
    """Wrong arguments, the first error first."""

    def test_folds(self):
        one = Program('grid 2 3 4 0\ninput s 0 7\nr = s + 1\ntell r')
        two = Program('grid 2 3 4 0\ninput s 0 7\ninput p 0 7\nr = s + p\ntell r s')
        for program in (one, two):
            self.refused(BadFold, program, stuck, program, None)
            self.refused(BadFold, program, ring, program, None, None)
            self.refused(BadFold, program, behind, program, None, None, None)

    def test_starts_parts_laps(self):
        for value in wrong_values() + [9, -1, 128, 17, '6', (6,)]:
            self.refused(BadStart, value, ring, ADDING, value, None)
            self.refused(BadStart, value, behind, ADDING, value, None, None)
        for value in wrong_values() + [0, 4, -1, '1', (1,), [1], 9]:
            self.refused(BadPart, value, stuck, ADDING, value)
            self.refused(BadPart, value, ring, ADDING, 6, value)
            self.refused(BadPart, value, behind, ADDING, 6, value, None)
        for value in wrong_values() + [-1, LAPS + 1, '5', (5,)]:
            self.refused(BadLaps, value, behind, ADDING, 6, 3, value)
            self.refused(BadLaps, value, drift, TINY, 0, 1, 'near', value)

    def test_numbers_and_ways(self):
        for value in wrong_values() + [9, 113, 128, -17, '1']:
            self.refused(BadNumber, value, drift, TINY, value, None, None, None)
            self.refused(BadNumber, value, drift, TINY, 0, value, None, None)
            self.refused(BadNumber, value, stall, TINY, value, None, None)
            self.refused(BadNumber, value, stall, TINY, 0, value, None)
        for value in wrong_values() + ['Near', 'nearest', 'exact', ('near',), 0]:
            self.refused(BadWay, value, drift, TINY, 0, 1, value, None)
            self.refused(BadWay, value, stall, TINY, 0, 1, value)

    def test_named_arguments(self):
        self.same(stuck(program=ADDING, part=3), ((32, 112),))
        self.same(ring(program=ADDING, start=6, part=3), ('ring', 7, 1))
        self.same(behind(program=ADDING, start=6, part=3, laps=1), ('state', 8))
        self.same(drift(grid=TINY, start=0, part=1, way='up', laps=10), ('state', 12))
        self.same(stall(grid=TINY, start=0, part=1, way='near'), ('stalls', 8, 8))


if __name__ == '__main__':
    unittest.main()
