"""Section 21: looks that part most."""

import random
import unittest
from itertools import combinations

from roundedsteps.errors import BadLooks, BadNames, BadPrices, NoName
from roundedsteps.looks import best_ask, cheapest_names, counted, knows, shows_best_ask, shows_cheapest_names, shows_knows
from roundedsteps.programs import Program
from tests import slow, slow_cuts
from tests.helping import Case, some_program, variants, wrong_values
from tests.test_seen import SEEN, SMALL, Slow, some_looks, wrong_looks


class Asked(Slow):
    """A program with looks, all inputs and all lots gone through."""

    def __init__(self, program, looks):
        super().__init__(program, looks)
        self.kept = {}

    def worths(self, names, row):
        return tuple(int(self.worth(name, row)) for name in names)

    def counted(self, name):
        found = [int(self.worth(name, row)) for row in self.left]
        return tuple((worth, found.count(worth)) for worth in sorted(set(found)))

    def splits(self, name):
        """Each number of the grid, with how many are left if the worth is at most it."""
        if name not in self.kept:
            grid = self.program.grid
            worths = [int(self.worth(name, row)) for row in self.left]
            self.kept[name] = {at: sum([worth <= at for worth in worths])
                               for at in slow.all_numbers(grid.base, grid.figures, grid.reach)}
        return self.kept[name]

    def shows_ask(self, names, value):
        if type(value) is not tuple:
            return False
        if all(len(self.counted(name)) < 2 for name in names):
            return value == ('none',)
        if len(value) != 5 or value[0] != 'ask' or type(value[1]) is not str or value[1] not in names:
            return False
        if any(type(part) is not int for part in value[2:]) or self.splits(value[1]).get(value[2]) != value[3]:
            return False
        everyone = len(self.left)
        least = min(max(many, everyone - many) for name in names for many in set(self.splits(name).values()))
        return value[3] + value[4] == everyone and max(value[3:]) == least

    def parts(self, names, goal, one, other):
        if not all(slow_cuts.are_inputs(self.program, row) and row in self.left for row in (one, other)):
            return False
        return self.worths(names, one) == self.worths(names, other) and self.worth(goal, one) != self.worth(goal, other)

    def table(self, names, goal):
        """The rows, None if two of them have the same worths of names."""
        rows = sorted({(self.worths(names, row), int(self.worth(goal, row))) for row in self.left})
        return tuple(rows) if len({row[0] for row in rows}) == len(rows) else None

    def shows_knows(self, names, goal, value):
        table = self.table(names, goal)
        if table is not None:
            return type(value) is tuple and strictly(value, ('known', table))
        return type(value) is tuple and len(value) == 3 and value[0] == 'parts' and self.parts(names, goal, *value[1:])

    def shows_cheapest(self, prices, goal, value):
        if type(value) is not tuple:
            return False
        names = tuple(name for name, _ in prices)
        if self.table(names, goal) is None:
            return len(value) == 3 and value[0] == 'none' and self.parts(names, goal, *value[1:])
        lots = [lot for many in range(len(prices) + 1) for lot in combinations(prices, many)]
        lots = sorted((sum(price for _, price in lot), len(lot), tuple(name for name, _ in lot)) for lot in lots)
        first = next(at for at, (_, _, lot) in enumerate(lots) if self.table(lot, goal) is not None)
        if len(value) != 4 or not strictly(value[:3], ('names', lots[first][0], lots[first][2])):
            return False
        if type(value[3]) is not tuple or len(value[3]) != first:
            return False
        return all(type(part) is tuple and len(part) == 3 and strictly(part[0], lot) and self.parts(lot, goal, *part[1:])
                   for part, (_, _, lot) in zip(value[3], lots))


def strictly(one, other):
    """Whether two values are equal, and of the same kinds."""
    if type(one) is not type(other) or type(one) is tuple and len(one) != len(other):
        return False
    return all(strictly(part, also) for part, also in zip(one, other)) if type(one) is tuple else one == other


def some_names(chance, program, least, most):
    names = sorted(program.names)
    return tuple(sorted(chance.sample(names, min(len(names), chance.randint(least, most)))))


class Against(Case):
    """Held against all inputs and all lots, and values near what is told."""

    def some(self, chance):
        program = some_program(chance, most_steps=6, most_numbers=5)
        return program, some_looks(chance, program, most=2)

    def test_counted(self):
        chance = random.Random(131)
        for _ in range(150):
            program, looks = self.some(chance)
            name = chance.choice(program.names)
            self.same(counted(program, looks, name), Asked(program, looks).counted(name))

    def test_best_ask(self):
        chance = random.Random(132)
        words = {'none': 0, 'ask': 0}
        for _ in range(250):
            program, looks = self.some(chance)
            names = some_names(chance, program, 1, 4)
            told = Asked(program, looks)
            value = best_ask(program, looks, names)
            words[value[0]] += 1
            self.assertTrue(told.shows_ask(names, value))
            for part in variants(chance, value, 10):
                self.assertIs(shows_best_ask(program, looks, names, part), told.shows_ask(names, part))
        self.assertGreater(min(words.values()), 30)

    def test_knows(self):
        chance = random.Random(133)
        words = {'known': 0, 'parts': 0}
        for _ in range(250):
            program, looks = self.some(chance)
            names = some_names(chance, program, 0, 4)
            goal = chance.choice(program.names)
            told = Asked(program, looks)
            value = knows(program, looks, names, goal)
            words[value[0]] += 1
            self.assertEqual(value[0] == 'known', told.table(names, goal) is not None)
            self.assertTrue(told.shows_knows(names, goal, value))
            for part in variants(chance, value, 10):
                self.assertIs(shows_knows(program, looks, names, goal, part), told.shows_knows(names, goal, part))
        self.assertGreater(min(words.values()), 30)

    def test_cheapest_names(self):
        chance = random.Random(134)
        words, lengths = {'names': 0, 'none': 0}, set()
        for _ in range(200):
            program, looks = self.some(chance)
            prices = tuple((name, chance.choice([1, 2, 2, 3, 5])) for name in some_names(chance, program, 1, 4))
            goal = chance.choice(program.names)
            told = Asked(program, looks)
            value = cheapest_names(program, looks, prices, goal)
            words[value[0]] += 1
            lengths.add(len(value[2]) if value[0] == 'names' else None)
            self.assertTrue(told.shows_cheapest(prices, goal, value))
            for part in variants(chance, value, 10):
                self.assertIs(shows_cheapest_names(program, looks, prices, goal, part), told.shows_cheapest(prices, goal, part))
        self.assertGreater(min(words.values()), 30)
        self.assertLessEqual({0, 1, 2}, lengths)


class Edges(Case):
    """What the section names."""

    def test_the_example(self):
        self.same(counted(SMALL, (), 't'), ((0, 3), (1, 4), (2, 1)))
        self.same(best_ask(SMALL, (), ('t',)), ('ask', 't', 0, 3, 5))
        self.same(max(best_ask(SMALL, (), ('s', 't'))[3:]), 5)
        self.same([shows_best_ask(SMALL, (), ('s', 't'), value) for value in
                   (('ask', 's', 4, 5, 3), ('ask', 't', 0, 3, 5), ('ask', 's', 6, 5, 3), ('ask', 's', 5, 5, 3), ('ask', 's', 4, 3, 5),
                    ('ask', 's', 3, 3, 5), ('ask', 'x', 3, 4, 4), ('ask', 's', 8, 7, 1), ('none',), ('ask', 's', 4, 5), None)],
                  [True, True, True, False, False, True, False, False, False, False, False])
        self.same(knows(SMALL, SEEN, ('s',), 'x'), ('known', (((1,), 0), ((2,), 1), ((3,), 2), ((4,), 3), ((8,), 6))))
        self.same(knows(SMALL, (), ('s',), 'x')[0], 'parts')
        self.same([shows_knows(SMALL, (), ('s',), 'x', ('parts', one, other)) for one, other in
                   (((3,), (4,)), ((4,), (3,)), ((6,), (8,)), ((3,), (6,)), ((3,), (3,)), ((5,), (4,)), (3, 4), ([3], [4]))],
                  [True, True, True, False, False, False, False, False])

    def test_no_names(self):
        self.same(knows(SMALL, (), (), 'x')[0], 'parts')
        self.same(knows(SMALL, (('x', 3, 3),), (), 'x'), ('known', (((), 3),)))
        self.same(shows_knows(SMALL, (('x', 3, 3),), (), 'x', ('known', (((), True),))), False)
        self.same(knows(SMALL, (('t', 0, 0), ('x', 8, 12)), (), 't'), ('known', (((), 0),)))

    def test_nothing_is_left(self):
        looks = (('t', 3, 12),)
        self.same([counted(SMALL, looks, 'x'), best_ask(SMALL, looks, ('x',)), knows(SMALL, looks, ('x',), 's'),
                   cheapest_names(SMALL, looks, (('x', 1),), 's')], [(), ('none',), ('known', ()), ('names', 0, (), ())])
        self.same([shows_best_ask(SMALL, looks, ('x',), value) for value in (('none',), ('ask', 'x', 0, 0, 0), ['none'], 'none')],
                  [True, False, False, False])
        self.same(shows_cheapest_names(SMALL, looks, (('x', 1),), 's', ('names', 0, (), ())), True)
        self.same(shows_cheapest_names(SMALL, looks, (('x', 1),), 's', ('names', False, (), ())), False)

    def test_one_worth_each(self):
        looks = (('x', 0, 3), ('t', 0, 4))
        self.same(best_ask(SMALL, looks, ('t',)), ('none',))
        self.same(best_ask(SMALL, looks, ('s', 't'))[0], 'ask')
        self.same(best_ask(SMALL, looks, ('s', 't', 'x'))[3:], (2, 2))

    def test_worths_that_no_number_parts(self):
        # With two figures more s is 17, 18, 19; from 16 on numbers of the grid are 16, 24.
        program = Program('grid 2 2 3 0\ninput a 1 3\ns = a + 16 keep 3\ntell s')
        told = best_ask(program, (), ('s',))
        self.same(max(told[3:]), 3)
        for value, so in ((('ask', 's', 24, 3, 0), True), (('ask', 's', 16, 0, 3), True), (('ask', 's', -4, 0, 3), True),
                          (('ask', 's', 17, 1, 2), False), (('ask', 's', 20, 3, 0), False), (('none',), False)):
            self.same(shows_best_ask(program, (), ('s',), value), so)
        self.same(max(best_ask(program, (), ('a', 's'))[3:]), 2)
        program = Program('grid 10 2 2 0\ninput a 1 3\ns = a + 100 keep 1\ntell s')
        told = best_ask(program, (), ('s',))
        self.assertIn(told[2], program.grid)
        self.same(max(told[3:]), 3)

    def test_worths_beyond_the_grid(self):
        # The greatest number is 24: with figures more steps come to more than that.
        program = Program('grid 2 2 3 0\ninput a 1 4\ns = a + 24 keep 3\nt = 0 - s keep 3\nu = s - 24 keep 3\ntell s')
        for name, many in (('s', {0, 4}), ('t', {0, 4}), ('u', {2})):
            told = best_ask(program, (), (name,))
            self.assertLessEqual(set(told[3:]), many)
            self.assertIn(told[2], program.grid)
            self.same(shows_best_ask(program, (), (name,), told), True)
        self.same([shows_best_ask(program, (), ('t',), ('ask', 't', at, many, 4 - many)) for at, many in ((-24, 4), (24, 4), (-28, 2))],
                  [True, True, False])
        program = Program('grid 2 2 3 0\ninput a 1 4\ns = a + 24 keep 3\nt = choose a 3 a s\ntell t')
        self.same(best_ask(program, (), ('t',)), ('ask', 't', 2, 2, 2))
        self.same(shows_best_ask(program, (), ('t',), ('ask', 't', 24, 2, 2)), True)

    def test_cheapest_lots_in_sequence(self):
        prices = (('s', 2), ('t', 2))
        told = cheapest_names(SMALL, (), prices, 'x')
        self.same(told[:3], ('names', 4, ('s', 't')))
        self.same([row[0] for row in told[3]], [(), ('s',), ('t',)])
        self.same(shows_cheapest_names(SMALL, (), prices, 'x', told), True)
        reasons = (((), (0,), (1,)), (('s',), (3,), (4,)), (('t',), (0,), (1,)))
        self.same(shows_cheapest_names(SMALL, (), prices, 'x', told[:3] + (reasons,)), True)
        for wrong in (reasons[:2], reasons[::-1], reasons + reasons[:1], (reasons[0], reasons[2], reasons[1]), list(reasons), (),
                      (reasons[0], (('s',), (0,), (1,)), reasons[2]), (reasons[0], (('s',), (3,)), reasons[2]), None):
            self.same(shows_cheapest_names(SMALL, (), prices, 'x', told[:3] + (wrong,)), False)
        self.same(cheapest_names(SMALL, (), (('s', 3), ('x', 3)), 'x')[:3], ('names', 3, ('x',)))
        self.same(cheapest_names(SMALL, (), (('s', 2), ('t', 1), ('x', 3)), 'x')[:3], ('names', 3, ('x',)))
        self.same(cheapest_names(SMALL, (), (('s', 1), ('t', 1), ('x', 99)), 'x')[:3], ('names', 2, ('s', 't')))
        self.same(cheapest_names(SMALL, (), (('t', 1),), 'x')[0], 'none')
        self.same(shows_cheapest_names(SMALL, (), (('t', 1),), 'x', ('none', (0,), (3,))), True)
        self.same(shows_cheapest_names(SMALL, (), (('t', 1),), 'x', ('none', (0,), (6,))), False)
        self.same(cheapest_names(SMALL, (('x', 0, 3),), (('s', 1),), 't'), ('names', 0, (), ()))

    def test_true_is_not_one(self):
        value = ('known', (((1,), 0), ((2,), 1), ((3,), 2), ((4,), 3), ((8,), 6)))
        self.same(shows_knows(SMALL, SEEN, ('s',), 'x', value), True)
        for rows in ((((True,), 0),) + value[1][1:], (((1,), False),) + value[1][1:], value[1][::-1], value[1][1:], list(value[1])):
            self.same(shows_knows(SMALL, SEEN, ('s',), 'x', ('known', rows)), False)
        self.same(shows_best_ask(SMALL, (), ('t',), ('ask', 't', 0, 3, 5)), True)
        self.same(shows_best_ask(SMALL, (), ('t',), ('ask', 't', False, 3, 5)), False)
        self.same(shows_best_ask(SMALL, (('x', 0, 1),), ('x',), ('ask', 'x', 0, 1, 1)), True)
        self.same(shows_best_ask(SMALL, (('x', 0, 1),), ('x',), ('ask', 'x', 0, True, 1)), False)

    def test_values_of_any_kind(self):
        for value in wrong_values():
            self.same(shows_best_ask(SMALL, (), ('s', 't'), value), False)
            self.same(shows_best_ask(SMALL, (), ('s', 't'), ('ask', value, 4, 5, 3)), False)
            self.same(shows_best_ask(SMALL, (), ('s', 't'), ('ask', 's', value, 5, 3)), False)
            self.same(shows_best_ask(SMALL, (), ('s', 't'), ('ask', 's', 4, value, 3)), False)
            self.same(shows_knows(SMALL, (), ('s',), 'x', value), False)
            self.same(shows_knows(SMALL, (), ('s',), 'x', ('parts', value, (4,))), False)
            self.same(shows_knows(SMALL, SEEN, ('s',), 'x', ('known', value)), False)
            self.same(shows_cheapest_names(SMALL, (), (('s', 1), ('t', 1)), 'x', value), False)
            self.same(shows_cheapest_names(SMALL, (), (('t', 1),), 'x', ('none', value, (6,))), False)
            self.same(shows_cheapest_names(SMALL, (), (('x', 1),), 'x', ('names', 1, ('x',), value)), False)
            self.same(shows_cheapest_names(SMALL, (), (('x', 1),), 'x', ('names', 1, ('x',), (value,))), False)


class Refused(Case):
    """Wrong arguments, the first error first."""

    def test_looks(self):
        calls = ((counted, (None,)), (best_ask, (None,)), (shows_best_ask, (None, None)), (knows, (None, None)),
                 (shows_knows, (None, None, None)), (cheapest_names, (None, None)), (shows_cheapest_names, (None, None, None)))
        for value in wrong_looks():
            for call, told in calls:
                self.refused(BadLooks, value, call, SMALL, value, *told)

    def test_names(self):
        wrong = [['s'], ('t', 's'), ('s', 's'), ('s', 'u'), 's', ('s', None), (('s',),), ('s', 't', 'x', 's'), ('S',), (0,),
                 ('s', ['t']), ('s', True)]
        for value in [value for value in wrong_values() if value != ('x',)] + wrong:
            self.refused(BadNames, value, best_ask, SMALL, (), value)
            self.refused(BadNames, value, shows_best_ask, SMALL, SEEN, value, ('none',))
            if value != ():
                self.refused(BadNames, value, knows, SMALL, (), value, None)
                self.refused(BadNames, value, shows_knows, SMALL, (), value, None, None)
        program = Program('grid 2 2 3 0\ninput a 0 1\n' + ''.join([f's{at} = a + 1\n' for at in range(7)]) + 'tell a')
        names = tuple(f's{at}' for at in range(7))
        self.refused(BadNames, names, best_ask, program, (), names)
        self.refused(BadNames, names, knows, program, (), names, 'x')
        self.same(best_ask(program, (), names[:6])[0], 'ask')
        self.same(knows(program, (), names[1:], 'a')[0], 'known')

    def test_goals(self):
        for value in wrong_values() + ['u', ['x'], ('x',), 0]:
            if value != 'x':
                self.refused(NoName, value, counted, SMALL, (), value)
                self.refused(NoName, value, knows, SMALL, (), (), value)
                self.refused(NoName, value, shows_knows, SMALL, (), ('s',), value, None)
                self.refused(NoName, value, cheapest_names, SMALL, (), (('s', 1),), value)
                self.refused(NoName, value, shows_cheapest_names, SMALL, (), (('s', 1),), value, None)

    def test_prices(self):
        wrong = [[('s', 1)], (['s', 1],), (('s', 0),), (('s', 100),), (('s', True),), (('s', '1'),), (('s', None),), (('s',),),
                 (('s', 1, 1),), (('u', 1),), (('t', 1), ('s', 1)), (('s', 1), ('s', 2)), (('s', 1), None), ('s', 1), (('s', -1),),
                 ((1, 's'),), ((('s',), 1),), (('s', 1), ('t', 1), ('s', 1))]
        for value in wrong_values() + wrong:
            self.refused(BadPrices, value, cheapest_names, SMALL, (), value, None)
            self.refused(BadPrices, value, shows_cheapest_names, SMALL, (), value, None, None)
        program = Program('grid 2 2 3 0\ninput a 0 1\n' + ''.join([f's{at} = a + 1\n' for at in range(6)]) + 'tell a')
        prices = tuple((f's{at}', 99 - at) for at in range(6))
        self.refused(BadPrices, prices, cheapest_names, program, (), prices, 'x')
        self.same(cheapest_names(program, (), prices[:5], 'a')[:3], ('names', 95, ('s4',)))

    def test_named_arguments(self):
        self.same(counted(program=SMALL, looks=(), name='t'), ((0, 3), (1, 4), (2, 1)))
        told = best_ask(program=SMALL, looks=(), names=('t',))
        self.same(shows_best_ask(program=SMALL, looks=(), names=('t',), value=told), True)
        told = knows(program=SMALL, looks=(), names=('t',), goal='x')
        self.same(shows_knows(program=SMALL, looks=(), names=('t',), goal='x', value=told), True)
        told = cheapest_names(program=SMALL, looks=(), prices=(('x', 1),), goal='x')
        self.same(shows_cheapest_names(program=SMALL, looks=(), prices=(('x', 1),), goal='x', value=told), True)


if __name__ == '__main__':
    unittest.main()
