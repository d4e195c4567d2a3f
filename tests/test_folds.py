"""Section 26: folds."""

import random
import unittest
from itertools import product

from roundedsteps.errors import BadFold, BadParts, BadStart, BadStarts
from roundedsteps.folds import folded, least_closed, least_kept, shows_least_closed, shows_least_kept
from roundedsteps.grids import Grid
from roundedsteps.programs import Program
from tests import slow
from tests.helping import Case, variants, wrong_values
from tests.test_looks import strictly

LINES = 'grid 2 3 4 0\ninput s 0 112\ninput p 1 3\nr = s + p\ntell r'
ADDING = Program(LINES)
SHORT = Program(LINES.replace('112', '20'))


class Slow:
    """A fold, its laps gone through by the words of the section."""

    def __init__(self, program):
        self.program = program
        (_, self.low, self.high), (_, first, last) = program.inputs
        numbers = slow.all_numbers(program.grid.base, program.grid.figures, program.grid.reach)
        self.numbers = numbers
        self.states = [number for number in numbers if self.low <= number <= self.high]
        self.parts = [number for number in numbers if first <= number <= last]
        self.known = {}

    def lap(self, state, part):
        """(None, state), or (why, None)."""
        if (state, part) not in self.known:
            known, end = slow.walk(self.program, (state, part))
            number = None if end else int(known[self.program.told[0]])
            self.known[state, part] = (end, None) if end else (None, number) if number in self.states else (('left', number), None)
        return self.known[state, part]

    def folded(self, start, parts):
        states = [start]
        for at, part in enumerate(parts):
            why, number = self.lap(states[-1], part)
            if why:
                return (why, at, tuple(states))
            states.append(number)
        return ('tells', tuple(states))

    def between(self, low, high):
        return [state for state in self.states if low <= state <= high]

    def closed(self, starts):
        """The states that are come to, growing until nothing more comes; or how many laps it takes to leave."""
        found, laps = set(self.between(*starts)), 0
        while True:
            laps += 1
            told = [self.lap(state, part) for state in found for part in self.parts]
            if any(why for why, _ in told):
                return None, laps
            more = found | {number for _, number in told}
            if more == found:
                return found, None
            found = more

    def lot(self, states):
        """States as a lot."""
        rows = []
        for number in self.numbers:
            if number in states:
                if rows and rows[-1][-1] == self.numbers[self.numbers.index(number) - 1]:
                    rows[-1].append(number)
                else:
                    rows.append([number])
        return tuple((row[0], row[-1]) for row in rows)

    def shows_closed(self, starts, value):
        found, laps = self.closed(starts)
        if type(value) is not tuple:
            return False
        if found is not None:
            return strictly(value, ('closed', self.lot(found)))
        if len(value) != 3 or value[0] != 'leaves' or type(value[1]) is not int or value[1] not in self.between(*starts):
            return False
        if type(value[2]) is not tuple or len(value[2]) != laps or any(type(part) is not int for part in value[2]):
            return False
        return all(part in self.parts for part in value[2]) and self.folded(*value[1:])[0] != 'tells'

    def kept(self, starts):
        """The least range that is kept, of all ranges; None if there is none."""
        pairs = [(low, high) for low in self.states for high in self.states if low <= starts[0] and starts[1] <= high]
        for low, high in sorted(pairs, key=lambda pair: len(self.between(*pair))):
            told = [self.lap(state, part) for state in self.between(low, high) for part in self.parts]
            if all(why is None and low <= number <= high for why, number in told):
                return low, high
        return None

    def shows_kept(self, starts, kept, value):
        if type(value) is not tuple:
            return False
        if kept is not None:
            return strictly(value, ('kept',) + kept)
        if len(value) != 2 or value[0] != 'none' or type(value[1]) is not tuple or not value[1]:
            return False
        found = list(starts)
        for at, row in enumerate(value[1]):
            if type(row) is not tuple or len(row) != 2 or any(type(part) is not int for part in row):
                return False
            if row[0] not in self.between(min(found), max(found)) or row[1] not in self.parts:
                return False
            why, number = self.lap(*row)
            if (why is not None) != (at == len(value[1]) - 1):
                return False
            found.append(number)
        return True


def some_fold(chance):
    """A fold of sums, differences, means, bounds, chooses, on a small grid."""
    base, figures, reach = chance.choice([(2, 2, 3), (2, 3, 3), (2, 3, 4), (3, 1, 2), (10, 1, 1), (3, 2, 1)])
    grid = Grid(base, figures, reach, 0)
    last = grid.rank(grid.greatest)
    ends = sorted(chance.choice([0, 1, 4, last, last]) * chance.choice([1, 1, -1]) for _ in range(2))
    first = chance.randint(-3, 3)
    pair = (first, first + chance.randint(0, 2))
    way = chance.choice(['', '', '', ' way down', ' way up', ' way zero'])
    steps = chance.choice([
        'r = s + p' + way, 'r = s - p' + way, 't = s + p keep 1\nr = t / 2' + way, 't = s + p\nr = most t {low}\nu = least r {high}',
        't = s + p' + way + '\nr = choose t {high} t {low}', 'r = p - s' + way, 't = s - p keep 2\nr = t + p' + way,
        't = s / p' + way + '\nr = t + 1', 'r = p / s' + way, 'r = s + p keep 2', 't = s * p' + way + '\nr = t - s', 'r = least s p',
        't = s + s' + way + '\nr = t - p', 't = most s p\nr = t - 1', 't = s + p\nu = t - p\nr = u + u'])
    low, high = [grid.number(rank) for rank in ends]
    text = '\n'.join([f'grid {base} {figures} {reach} 0', f'input s {low} {high}', 'input p {} {}'.format(*[grid.number(max(-last, min(last, rank))) for rank in pair]),
                      steps.format(low=low, high=high)])
    name = text.split('\n')[-1].split(' ')[0]
    return Program(text + '\ntell ' + chance.choice([name, name, name, name, name, 's', 'p']))


def some_starts(chance, told):
    low, high = sorted(chance.choice(told.states) for _ in range(2))
    return (low, chance.choice([low, high]))


class Against(Case):
    """Held against laps one by one, growing by itself, and all ranges."""

    def test_folded(self):
        chance = random.Random(191)
        words = {'tells': 0, 'left': 0, 'over': 0, 'nought': 0}
        for _ in range(1200):
            told = Slow(some_fold(chance))
            start = chance.choice(told.states)
            parts = tuple(chance.choice(told.parts) for _ in range(chance.choice([0, 1, 2, 5, 12])))
            value = folded(told.program, start, parts)
            words[value[0] if value[0] == 'tells' else value[0][0]] += 1
            self.same(value, told.folded(start, parts))
        self.assertGreater(min(words.values()), 15, words)

    def test_least_closed(self):
        chance = random.Random(192)
        words, lengths, lots = {'closed': 0, 'leaves': 0}, set(), set()
        for _ in range(400):
            told = Slow(some_fold(chance))
            starts = some_starts(chance, told)
            value = least_closed(told.program, starts)
            words[value[0]] += 1
            (lengths if value[0] == 'leaves' else lots).add(len(value[-1]))
            self.assertTrue(told.shows_closed(starts, value), (told.program.text, starts, value))
            for part in variants(chance, value, 10):
                self.assertIs(shows_least_closed(told.program, starts, part), told.shows_closed(starts, part))
        self.assertGreater(min(words.values()), 60)
        self.assertLessEqual({1, 2, 3, 4}, lengths)
        self.assertLessEqual({1, 2, 3}, lots)

    def test_all_lists_as_short(self):
        chance = random.Random(193)
        found = set()
        for _ in range(200):
            told = Slow(some_fold(chance))
            starts = some_starts(chance, told)
            _, laps = told.closed(starts)
            if laps is None or len(told.parts) ** laps * len(told.between(*starts)) > 300:
                continue
            for start in told.between(*starts):
                for parts in product(told.parts, repeat=laps):
                    so = told.folded(start, parts)[0] != 'tells'
                    self.assertIs(shows_least_closed(told.program, starts, ('leaves', start, parts)), so)
                    found.add(so)
        self.assertEqual(found, {True, False})

    def test_least_kept(self):
        chance = random.Random(194)
        words, lengths = {'kept': 0, 'none': 0}, set()
        for _ in range(300):
            told = Slow(some_fold(chance))
            starts = some_starts(chance, told)
            value = least_kept(told.program, starts)
            words[value[0]] += 1
            lengths.add(len(value[1]) if value[0] == 'none' else None)
            kept = told.kept(starts)
            self.assertTrue(told.shows_kept(starts, kept, value), (told.program.text, starts, value))
            for part in variants(chance, value, 10):
                self.assertIs(shows_least_kept(told.program, starts, part), told.shows_kept(starts, kept, part))
            if value[0] == 'none':
                rows = tuple((chance.choice(told.states), chance.choice(told.parts)) for _ in range(chance.choice([1, 1, 2, 3])))
                self.assertIs(shows_least_kept(told.program, starts, ('none', rows)), told.shows_kept(starts, kept, ('none', rows)))
        self.assertGreater(min(words.values()), 60)
        self.assertLessEqual({1, 2, 3}, lengths)

    def test_the_least_kept_range_has_the_least_closed_lot(self):
        chance = random.Random(195)
        less = 0
        for _ in range(200):
            told = Slow(some_fold(chance))
            starts = some_starts(chance, told)
            closed, kept = least_closed(told.program, starts), least_kept(told.program, starts)
            if kept[0] == 'kept':
                self.assertEqual(closed[0], 'closed')
                self.assertTrue(all(kept[1] <= low and high <= kept[2] for low, high in closed[1]))
                less += closed[1] != ((kept[1], kept[2]),)
        self.assertGreater(less, 10)


class Edges(Case):
    """What the section names."""

    def test_the_example(self):
        self.same(folded(ADDING, 6, (3, 3, 1)), ('tells', (6, 8, 12, 12)))
        self.same([least_closed(ADDING, (0, 1)), least_kept(ADDING, (0, 1))], [('closed', ((0, 32),)), ('kept', 0, 32)])
        told = least_closed(SHORT, (0, 1))
        self.same([told[0], len(told[2])], ['leaves', 7])
        self.same(shows_least_closed(SHORT, (0, 1), ('leaves', 1, (3, 3, 3, 3, 3, 3, 3))), True)
        for wrong in (('leaves', 1, (3,) * 8), ('leaves', 1, (3,) * 6), ('leaves', 1, (1,) * 7), ('leaves', 2, (3,) * 7), ('leaves', 1, [3] * 7),
                      ('leaves', True, (3,) * 7), ('leaves', 1, (3, 3, 3, 3, 3, 3, 4)), ('leaves', 1, (3,) * 6 + (True,)), ('closed', ((0, 20),)),
                      ('left', 1, (3,) * 7), ('leaves', 1), None):
            self.same(shows_least_closed(SHORT, (0, 1), wrong), False)
        self.same(shows_least_kept(SHORT, (20, 20), ('none', ((20, 2),))), True)
        self.same(folded(SHORT, 20, (1, 2)), (('left', 24), 1, (20, 20)))

    def test_without_parts(self):
        self.same([folded(ADDING, 0, ()), folded(ADDING, 112, ())], [('tells', (0,)), ('tells', (112,))])

    def test_many_parts(self):
        told = folded(ADDING, 0, (1,) * 4096)
        self.same([told[0], len(told[1]), told[1][-1]], ['tells', 4097, 8])
        parts = (1,) * 4097
        self.refused(BadParts, parts, folded, ADDING, 0, parts)

    def test_results_that_are_no_numbers_of_the_grid(self):
        # With a figure more 9 is told, which is in the range, but no number of the grid.
        finer = Program(LINES.replace('s + p', 's + p keep 1'))
        self.same(folded(finer, 8, (2, 1)), (('left', 11), 1, (8, 10)))
        self.same(folded(finer, 8, (1,)), (('left', 9), 0, (8,)))
        self.same(least_closed(finer, (8, 8)), ('leaves', 8, (1,)))
        self.same([shows_least_kept(finer, (8, 8), ('none', rows)) for rows in (((8, 1),), ((8, 3),), ((8, 2), (10, 1)), ((8, 2),), ((10, 1),))],
                  [True, True, True, False, False])

    def test_over_and_nought(self):
        over = Program('grid 2 2 2 0\ninput s 0 12\ninput p 2 12\nr = s + p\ntell r')
        self.same(folded(over, 4, (8, 2, 4)), (('over', 'r'), 1, (4, 12)))
        nought = Program('grid 2 2 2 0\ninput s 0 12\ninput p 0 1\nq = s / p\nr = q - 1\ntell r')
        self.same(folded(nought, 4, (1, 0)), (('nought', 'q'), 1, (4, 3)))
        self.same(folded(nought, 0, (1,)), (('left', -1), 0, (0,)))
        self.same(least_closed(over, (2, 2)), ('leaves', 2, (12,)))

    def test_the_first_starts_that_leave(self):
        told = least_closed(SHORT, (8, 20))
        self.same([told[0], told[2]], ['leaves', (2,)])
        self.same([shows_least_closed(SHORT, (8, 20), ('leaves', start, (part,))) for start, part in ((20, 2), (20, 3), (20, 1), (16, 3), (24, 3))],
                  [True, True, False, False, False])

    def test_lots_that_do_not_touch(self):
        # From 4 the state goes to 12 and back to 4: 6, 8 and 10 are not come to.
        away = Program('grid 2 3 4 0\ninput s 0 16\ninput p 8 8\nr = s + p\nt = s - p\nu = choose s 6 r t\ntell u')
        self.same(least_closed(away, (4, 4)), ('closed', ((4, 4), (12, 12))))
        self.same(least_closed(away, (3, 4)), ('closed', ((3, 4), (12, 12))))
        self.same(least_closed(away, (2, 4)), ('closed', ((2, 4), (10, 12))))
        # From 6, which lies between them, it would leave: no range is kept.
        self.same(least_kept(away, (4, 4))[0], 'none')
        self.same([shows_least_kept(away, (4, 4), ('none', rows)) for rows in (((4, 8), (6, 8)), ((6, 8),), ((4, 8), (12, 8)))],
                  [True, False, False])
        for value in (('closed', ((4, 4), (10, 12))), ('closed', ((12, 12), (4, 4))), ('closed', [(4, 4), (12, 12)]), ('closed', ((4, 12),)),
                      ('closed', ((4, 4), [12, 12])), ('closed', ((4, 4),)), ('closed', ()), ('leaves', 4, (8,))):
            self.same(shows_least_closed(away, (4, 4), value), False)
        self.same(shows_least_closed(away, (4, 4), ('closed', ((4, 4), (12, 12)))), True)

    def test_ranges_split_and_joined(self):
        for starts, lots in (((0, 1), (((0, 8), (10, 32)), ((0, 7), (8, 32)), ((0, 32), (32, 32)), ((0, 20), (16, 32)), ((0, 32), (40, 40)), ((0, 28),), ((0, 40),),
                                       ((1, 32),), ((0, 32),) * 2, (0, 32), ((0, 32, 32),), ((32, 0),))),):
            self.same(shows_least_closed(ADDING, starts, ('closed', ((0, 32),))), True)
            self.same([shows_least_closed(ADDING, starts, ('closed', lot)) for lot in lots], [False] * len(lots))
        self.same([shows_least_kept(ADDING, (0, 1), value) for value in (('kept', 0, 32), ('kept', 0, 40), ('kept', 0, 28), ('kept', 1, 32), ('kept', 32, 0),
                                                                         ('kept', (0, 32)), ('kept', 0, 32, 32))], [True] + [False] * 6)

    def test_any_rows_that_lead_out(self):
        self.same(folded(SHORT, 1, (3,) * 6)[1][-1], 20)
        states = folded(SHORT, 1, (3,) * 6)[1]
        right = tuple((state, 3) for state in states)
        self.same(shows_least_kept(SHORT, (0, 1), ('none', right)), True)
        self.same(shows_least_kept(SHORT, (0, 1), ('none', right[:1] + ((0, 1), (2, 2)) + right[1:])), True)
        for wrong in (right[:-1], right[1:], right + right[:1], right + right[-1:], list(right), right[:1] + ((0, 4),) + right[1:],
                      right[:1] + ((5.0, 1),) + right[1:], ((9, 1),) + right, right[:1] + ((0, True),) + right[1:], (), right[:1] + ((5, 1),) + right[1:],
                      right[:-1] + ((20,),), right[:-1] + (20, 2), None):
            self.same(shows_least_kept(SHORT, (0, 1), ('none', wrong)), False)

    def test_true_is_not_one(self):
        ones = Program('grid 2 3 4 0\ninput s 0 1\ninput p 0 1\nr = least s p\ntell r')
        self.same(least_kept(ones, (1, 1)), ('kept', 0, 1))
        self.same([shows_least_kept(ones, (1, 1), value) for value in (('kept', 0, 1), ('kept', False, 1), ('kept', 0, True), ('kept', 0))],
                  [True, False, False, False])
        self.same(shows_least_closed(ones, (1, 1), ('closed', ((0, 1),))), True)
        self.same(shows_least_closed(ones, (1, 1), ('closed', ((False, True),))), False)

    def test_results_that_are_inputs(self):
        for told, lot in (('s', ((2, 3),)), ('p', ((1, 3),))):
            program = Program(LINES.replace('tell r', 'tell ' + told))
            self.same(least_closed(program, (2, 3)), ('closed', lot))

    def test_values_of_any_kind(self):
        right = least_closed(SHORT, (0, 1))
        rows = least_kept(SHORT, (0, 1))[1]
        for value in wrong_values():
            for program in (ADDING, SHORT):
                self.same(shows_least_closed(program, (0, 1), value), False)
                self.same(shows_least_kept(program, (0, 1), value), False)
                self.same(shows_least_closed(program, (0, 1), ('closed', value)), False)
                self.same(shows_least_kept(program, (0, 1), ('kept', value, 32)), False)
                self.same(shows_least_kept(program, (0, 1), ('none', value)), False)
            self.same(shows_least_closed(SHORT, (0, 1), ('leaves', value, right[2])), False)
            self.same(shows_least_closed(SHORT, (0, 1), ('leaves', right[1], value)), False)
            self.same(shows_least_closed(SHORT, (0, 1), ('leaves', right[1], right[2][:-1] + (value,))), False)
            self.same(shows_least_kept(SHORT, (0, 1), ('none', rows[:-1] + (value,))), False)
            self.same(shows_least_kept(SHORT, (0, 1), ('none', rows[:-1] + ((20, value),))), False)
            self.same(shows_least_kept(SHORT, (0, 1), ('none', rows[:-1] + ((value, 3),))), False)


class Refused(Case):
    """Wrong arguments, the first error first."""

    def test_folds(self):
        one = Program('grid 2 3 4 0\ninput s 0 7\nr = s + 1\ntell r')
        three = Program('grid 2 3 4 0\ninput s 0 7\ninput p 0 7\ninput q 0 7\nr = s + p\ntell r')
        two = Program('grid 2 3 4 0\ninput s 0 7\ninput p 0 7\nr = s + p\ntell r s')
        for program in (one, three, two):
            self.refused(BadFold, program, folded, program, None, None)
            self.refused(BadFold, program, least_closed, program, None)
            self.refused(BadFold, program, shows_least_closed, program, None, None)
            self.refused(BadFold, program, least_kept, program, None)
            self.refused(BadFold, program, shows_least_kept, program, None, None)

    def test_starts(self):
        for value in wrong_values() + [9, -1, 128, 17, '6', (6,)]:
            self.refused(BadStart, value, folded, ADDING, value, None)
        self.refused_with(BadStart, 24, folded, SHORT, 24, None)
        for value in wrong_values() + [(0,), (0, 1, 2), (1, 0), (0, 9), (-1, 0), (0, 128), (False, 1), (0, True), [0, 1], ('0', 1), (0, None), 0]:
            for program in (ADDING, SHORT):
                self.refused(BadStarts, value, least_closed, program, value)
                self.refused(BadStarts, value, least_kept, program, value)
                self.refused(BadStarts, value, shows_least_closed, program, value, None)
                self.refused(BadStarts, value, shows_least_kept, program, value, None)
        self.refused_with(BadStarts, (0, 24), least_closed, SHORT, (0, 24))

    def test_parts(self):
        for value in [value for value in wrong_values() if value not in ((), (1,))] + [(0,), (4,), (1, None), [1], (1, True), ('1',), 1, ((1,),)]:
            self.refused(BadParts, value, folded, ADDING, 6, value)

    def test_named_arguments(self):
        self.same(folded(program=ADDING, start=6, parts=(3,)), ('tells', (6, 8)))
        self.same(shows_least_closed(program=ADDING, starts=(0, 1), value=least_closed(program=ADDING, starts=(0, 1))), True)
        self.same(shows_least_kept(program=ADDING, starts=(0, 1), value=least_kept(program=ADDING, starts=(0, 1))), True)


if __name__ == '__main__':
    unittest.main()
