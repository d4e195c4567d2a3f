"""Section 28: orders of sums."""

import random
import unittest

from roundedsteps.errors import BadNumbers, BadTree, BadWay
from roundedsteps.grids import Grid
from roundedsteps.orders import (all_sums, best_tree, one_answer, shows_best_tree, shows_one_answer, shows_worst_tree, tree_sum,
                                 worst_tree)
from tests import slow
from tests.helping import Case, deep, variants, wrong_values

TINY = Grid(2, 3, 4, 0)
SOME = (6, 3, 1)
WAYS = ('near', 'down', 'up', 'zero')


def trees_over(places):
    """All trees over some places, each pair in both sequences."""
    if len(places) == 1:
        return [places[0]]
    found = []
    for chosen in range(1, 2 ** len(places) - 1):
        one = [place for at, place in enumerate(places) if chosen >> at & 1]
        other = [place for place in places if place not in one]
        found += [(tree, also) for tree in trees_over(one) for also in trees_over(other)]
    return found


TREES = {many: trees_over(list(range(many))) for many in range(1, 6)}


def worth(grid, numbers, tree, way):
    """What a tree comes to."""
    if not isinstance(tree, tuple):
        return numbers[tree]
    parts = [worth(grid, numbers, part, way) for part in tree]
    return None if None in parts else slow.rounded(grid, sum(parts), way)


def is_tree(value, many):
    """Whether any value is a tree over so many numbers."""
    def places(part):
        if type(part) is int:
            return [part]
        if type(part) is not tuple or len(part) != 2:
            return [None]
        return places(part[0]) + places(part[1])
    found = places(value)
    return None not in found and sorted(found) == list(range(many))


class Slow:
    """The worths of all trees."""

    def __init__(self, grid, numbers, way):
        self.grid, self.numbers, self.way = grid, numbers, way
        self.worths = {worth(grid, numbers, tree, way) for tree in TREES[len(numbers)]}
        self.offs = [abs(found - sum(numbers)) for found in self.worths if found is not None]

    def worth(self, tree):
        return worth(self.grid, self.numbers, tree, self.way)

    def is_tree(self, value):
        return is_tree(value, len(self.numbers))

    def shows_sums(self, value):
        sums, over = value
        if type(sums) is not tuple or [row[0] for row in sums] != sorted(self.worths - {None}):
            return False
        if any(not self.is_tree(tree) or self.worth(tree) != found for found, tree in sums):
            return False
        return over is None if None not in self.worths else self.is_tree(over) and self.worth(over) is None

    def shows_one(self, value):
        if type(value) is not tuple:
            return False
        if len(self.worths) == 1:
            found, = self.worths
            return len(value) == 2 and value[0] == 'one' and type(value[1]) is type(found) and value[1] == found
        if len(value) != 3 or value[0] != 'two' or not self.is_tree(value[1]) or not self.is_tree(value[2]):
            return False
        return self.worth(value[1]) != self.worth(value[2])

    def shows_off(self, choose, value):
        if not self.offs or value is None:
            return not self.offs and value is None
        if type(value) is not tuple or len(value) != 2 or type(value[0]) is not int or value[0] != choose(self.offs):
            return False
        if not self.is_tree(value[1]) or self.worth(value[1]) is None:
            return False
        return abs(self.worth(value[1]) - sum(self.numbers)) == value[0]


def some_numbers(chance, many):
    """A grid and numbers of it: that cancel, that are alike, of one sign, great ones."""
    grid = Grid(chance.choice([2, 2, 3, 5, 10]), chance.randint(1, 3), chance.randint(0, 4), chance.choice([0, 1]))
    last = grid.rank(grid.greatest)
    sort = chance.choice(['any', 'cancel', 'alike', 'sign', 'great', 'great'])
    ranks = [chance.randint(-last, last) if chance.random() < 0.5 else chance.randint(-min(last, 9), min(last, 9)) for _ in range(many)]
    if sort == 'sign':
        ranks = [abs(rank) for rank in ranks]
    elif sort == 'alike':
        ranks = [ranks[0]] * many
    elif sort == 'cancel':
        ranks = [rank if at % 2 else -ranks[(at + 1) % many] for at, rank in enumerate(ranks)]
    elif sort == 'great':
        ranks = [(last - chance.randint(0, min(1, last))) * chance.choice([1, -1, -1, 1, 0]) for _ in range(many)]
    return grid, tuple(grid.number(rank) for rank in ranks)


def some_tree(chance, many):
    """Any tree over so many numbers."""
    parts = list(range(many))
    while len(parts) > 1:
        chance.shuffle(parts)
        parts = [(parts[0], parts[1])] + parts[2:]
    return parts[0]


class Against(Case):
    """Held against all trees over one to five numbers."""

    def test_how_many_trees(self):
        self.assertEqual([len(set(TREES[many])) for many in (1, 2, 3, 4, 5)], [1, 2, 12, 120, 1680])

    def test_tree_sum(self):
        chance = random.Random(211)
        found = set()
        for _ in range(1500):
            many = chance.randint(1, 6)
            grid, numbers = some_numbers(chance, many)
            tree, way = some_tree(chance, many), chance.choice(WAYS)
            self.same(tree_sum(grid, numbers, tree, way), worth(grid, numbers, tree, way))
            found.add((way, many > 2, worth(grid, numbers, tree, way) is None))
        self.assertLessEqual({(way, True, so) for way in WAYS for so in (True, False)}, found)

    def test_all_trees(self):
        chance = random.Random(212)
        counts = {'all over': 0, 'some over': 0, 'none over': 0, 'one': 0, 'several': 0}
        for number in range(260):
            grid, numbers = some_numbers(chance, 5 if number % 12 == 0 else chance.choice([1, 2, 3, 3, 4]))
            way = chance.choice(WAYS)
            told = Slow(grid, numbers, way)
            counts['all over' if not told.offs else 'some over' if None in told.worths else 'none over'] += 1
            counts['one' if len(told.worths) == 1 else 'several'] += 1
            self.assertTrue(told.shows_sums(all_sums(grid, numbers, way)), (numbers, way))
            values = [one_answer(grid, numbers, way), best_tree(grid, numbers, way), worst_tree(grid, numbers, way)]
            self.assertTrue(told.shows_one(values[0]))
            self.assertTrue(told.shows_off(min, values[1]))
            self.assertTrue(told.shows_off(max, values[2]))
            others = [('two', some_tree(chance, len(numbers)), some_tree(chance, len(numbers))) for _ in range(6)] + [('one', None)]
            for value in [part for value in values for part in variants(chance, value, 8)] + others:
                self.assertIs(shows_one_answer(grid, numbers, way, value), told.shows_one(value))
                self.assertIs(shows_best_tree(grid, numbers, way, value), told.shows_off(min, value))
                self.assertIs(shows_worst_tree(grid, numbers, way, value), told.shows_off(max, value))
            for tree in [some_tree(chance, len(numbers)) for _ in range(6)]:
                for off in set(told.offs):
                    self.assertIs(shows_best_tree(grid, numbers, way, (off, tree)), told.shows_off(min, (off, tree)))
                    self.assertIs(shows_worst_tree(grid, numbers, way, (off, tree)), told.shows_off(max, (off, tree)))
        self.assertGreater(min(counts.values()), 10, counts)

    def test_six_numbers(self):
        chance = random.Random(213)
        for _ in range(25):
            grid, numbers = some_numbers(chance, 6)
            way = chance.choice(WAYS)
            sums, over = all_sums(grid, numbers, way)
            self.assertTrue(all(is_tree(tree, 6) and worth(grid, numbers, tree, way) == found for found, tree in sums))
            self.assertTrue(over is None or is_tree(over, 6) and worth(grid, numbers, over, way) is None)
            for _ in range(150):
                tree = some_tree(chance, 6)
                self.assertIn(worth(grid, numbers, tree, way), [found for found, _ in sums] + [None] * (over is not None))

    def test_in_another_sequence(self):
        chance = random.Random(214)
        for _ in range(150):
            grid, numbers = some_numbers(chance, chance.randint(2, 6))
            way, other = chance.choice(WAYS), tuple(chance.sample(numbers, len(numbers)))
            (sums, over), (also, behind) = all_sums(grid, numbers, way), all_sums(grid, other, way)
            self.assertEqual(([row[0] for row in sums], over is None), ([row[0] for row in also], behind is None))

    def test_turned_about(self):
        chance = random.Random(215)
        for _ in range(150):
            grid, numbers = some_numbers(chance, chance.randint(1, 5))
            way = chance.choice(WAYS)
            back = {'up': 'down', 'down': 'up'}.get(way, way)
            turned = tuple(-number for number in numbers)
            self.assertEqual([row[0] for row in all_sums(grid, numbers, way)[0]], [-row[0] for row in all_sums(grid, turned, back)[0][::-1]])
            for call in (best_tree, worst_tree):
                one, other = call(grid, numbers, way), call(grid, turned, back)
                self.assertEqual(one and one[0], other and other[0])

    def test_multiplied_with_the_base(self):
        chance = random.Random(216)
        many = 0
        for _ in range(300):
            grid, numbers = some_numbers(chance, chance.randint(1, 5))
            way, base = chance.choice(WAYS), grid.base
            sums, over = all_sums(grid, numbers, way)
            if over is not None or any(abs(found) * base > grid.greatest for found in numbers + tuple(row[0] for row in sums)):
                continue
            found, over = all_sums(grid, tuple(base * number for number in numbers), way)
            if over is None:
                self.assertEqual([row[0] for row in found], [base * row[0] for row in sums])
                many += 1
        self.assertGreater(many, 60)


class Edges(Case):
    """What the section names."""

    def test_the_example(self):
        self.same([tree_sum(TINY, SOME, ((0, 1), 2), 'near'), tree_sum(TINY, SOME, ((1, 2), 0), 'near')], [8, 10])
        self.same([row[0] for row in all_sums(TINY, SOME, 'near')[0]], [8, 10])
        self.same([one_answer(TINY, (4, 2, 1), 'near'), shows_one_answer(TINY, SOME, 'near', ('two', ((0, 1), 2), ((0, 2), 1)))], [('one', 7), True])
        self.same([best_tree(TINY, SOME, 'near')[0], worst_tree(TINY, SOME, 'near')[0]], [0, 2])
        for value, so in ((('two', ((1, 2), 0), ((0, 1), 2)), True), (('two', (2, (1, 0)), (0, (2, 1))), True), (('two', ((0, 1), 2), (2, (0, 1))), False),
                          (('one', 8), False), (('one', 10), False), (('two', ((0, 1), 2)), False), (('two', ((0, 1), 2), ((0, 2), 0)), False),
                          (('two', ((0, 1), 2), ((0, 2), True)), False), (('two', [[0, 1], 2], ((0, 2), 1)), False), (('two', (0, 1), ((0, 2), 1)), False),
                          (('two', ((0, 1), 2), ((0, 2), 1), None), False), (('three', ((0, 1), 2), ((0, 2), 1)), False)):
            self.same(shows_one_answer(TINY, SOME, 'near', value), so)
        for value, so in (((0, ((1, 2), 0)), True), ((0, (0, (2, 1))), True), ((0, ((0, 1), 2)), False), ((2, ((0, 1), 2)), False),
                          ((False, ((1, 2), 0)), False), ((0, ((1, 2), False)), False), ((0, ((1, 2), 0), 1), False), (None, False), ((0, 0), False)):
            self.same(shows_best_tree(TINY, SOME, 'near', value), so)
        self.same([shows_worst_tree(TINY, SOME, 'near', value) for value in ((2, ((0, 1), 2)), (2, (2, (1, 0))), (2, ((1, 2), 0)), (0, ((1, 2), 0)), None)],
                  [True, True, False, False, False])

    def test_one_number(self):
        self.same([tree_sum(TINY, (5,), 0, 'up'), all_sums(TINY, (5,), 'up'), one_answer(TINY, (5,), 'up'), best_tree(TINY, (5,), 'up'), worst_tree(TINY, (5,), 'up')],
                  [5, (((5, 0),), None), ('one', 5), (0, 0), (0, 0)])
        self.same([shows_best_tree(TINY, (5,), 'up', value) for value in ((0, 0), (0, False), (False, 0), (0, (0,)), (0, (0, 0)), 0)],
                  [True, False, False, False, False, False])
        self.same([shows_one_answer(TINY, (1,), 'up', ('one', part)) for part in (1, True, '1', None)], [True, False, False, False])

    def test_sums_that_are_over(self):
        # The greatest number is 112: two of them are over, with one taken away ahead they are not.
        self.same(tree_sum(TINY, (112, 112, -112), ((0, 1), 2), 'near'), None)
        self.same(tree_sum(TINY, (112, 112, -112), ((0, 2), 1), 'near'), 112)
        sums, over = all_sums(TINY, (112, 112, -112), 'near')
        self.same(([row[0] for row in sums], over in (((0, 1), 2), (2, (0, 1)), ((1, 0), 2), (2, (1, 0)))), ([112], True))
        self.same(one_answer(TINY, (112, 112, -112), 'near')[0], 'two')
        self.same(shows_one_answer(TINY, (112, 112, -112), 'near', ('two', (2, (0, 1)), (0, (1, 2)))), True)
        self.same([best_tree(TINY, (112, 112, -112), 'near')[0], worst_tree(TINY, (112, 112, -112), 'near')[0]], [0, 0])
        self.same(shows_worst_tree(TINY, (112, 112, -112), 'near', (0, ((0, 1), 2))), False)

    def test_all_are_over(self):
        for way in WAYS:
            told = [one_answer(TINY, (112, 112, 112), way), best_tree(TINY, (112, 112, 112), way), worst_tree(TINY, (112, 112, 112), way)]
            self.same(told, [('one', None), None, None])
            self.same(all_sums(TINY, (112, 112), way)[0], ())
            for call in (shows_best_tree, shows_worst_tree):
                self.same([call(TINY, (112, 112, 112), way, value) for value in (None, (0, ((0, 1), 2)), (), False)], [True, False, False, False])
            self.same([shows_one_answer(TINY, (112, 112, 112), way, value) for value in (('one', None), ('one', 0), ('two', ((0, 1), 2), (0, (1, 2))), None)],
                      [True, False, False, False])

    def test_where_one_part_is_always_over(self):
        # Any two of the first three are over; yet all trees have some sum over, as the last one comes too late or too little.
        sums, over = all_sums(TINY, (112, 112, 112, -1), 'near')
        self.same(sums, ())
        self.assertTrue(is_tree(over, 4))

    def test_values_of_any_kind(self):
        for value in wrong_values() + [deep(60)]:
            for numbers in (SOME, (5,)):
                self.same(shows_one_answer(TINY, numbers, 'near', value), False)
                self.same(shows_best_tree(TINY, numbers, 'near', value), False)
                self.same(shows_worst_tree(TINY, numbers, 'near', value), False)
            self.same(shows_best_tree(TINY, SOME, 'near', (0, value)), False)
            self.same(shows_best_tree(TINY, SOME, 'near', (value, ((1, 2), 0))), False)
            self.same(shows_best_tree(TINY, SOME, 'near', (0, ((1, 2), value))), False)
            self.same(shows_worst_tree(TINY, SOME, 'near', (2, ((value, 1), 2))), False)
            self.same(shows_one_answer(TINY, SOME, 'near', ('two', value, ((0, 2), 1))), False)
            self.same(shows_one_answer(TINY, SOME, 'near', ('one', value)), False)


class Refused(Case):
    """Wrong arguments, the first error first."""

    def test_numbers(self):
        wrong = [(6, 3, 9), (6, None), (True,), [6, 3], (6, '3'), (113,), (1,) * 7, 6, ((6,),)]
        for value in [value for value in wrong_values() if value != (1,)] + wrong:
            self.refused(BadNumbers, value, tree_sum, TINY, value, None, None)
            for call in (all_sums, one_answer, best_tree, worst_tree):
                self.refused(BadNumbers, value, call, TINY, value, None)
            for call in (shows_one_answer, shows_best_tree, shows_worst_tree):
                self.refused(BadNumbers, value, call, TINY, value, None, None)
        self.same(one_answer(TINY, (1,) * 6, 'near'), ('one', 6))

    def test_trees(self):
        wrong = [0, (0, 1), ((0, 1), 3), ((0, 1), 1), ((0, 1), (2, 2)), (0, 1, 2), ((0, 1), 2, 3), [(0, 1), 2], ([0, 1], 2), ((0, True), 2), ((0, 1), '2'),
                 ((0, 1), None), ((0, 1), -1), ((False, 1), 2), (((0, 1), 2),), ((0, (1,)), 2), ((0, ()), (1, 2)), deep(60)]
        for value in wrong_values() + wrong:
            self.refused(BadTree, value, tree_sum, TINY, SOME, value, None)
        # Pairs of pairs, as deep as any value may be.
        nested = (0, 1)
        for _ in range(28):
            nested = (nested, nested)
        self.refused(BadTree, nested, tree_sum, TINY, SOME, nested, None)

    def test_ways(self):
        for value in wrong_values() + ['Near', 'nearest', ('near',), 0]:
            self.refused(BadWay, value, tree_sum, TINY, SOME, ((0, 1), 2), value)
            for call in (all_sums, one_answer, best_tree, worst_tree):
                self.refused(BadWay, value, call, TINY, SOME, value)
            for call in (shows_one_answer, shows_best_tree, shows_worst_tree):
                self.refused(BadWay, value, call, TINY, SOME, value, None)

    def test_named_arguments(self):
        self.same(tree_sum(grid=TINY, numbers=SOME, tree=((0, 1), 2), way='near'), 8)
        self.same(all_sums(grid=TINY, numbers=(5,), way='near'), (((5, 0),), None))
        told = one_answer(grid=TINY, numbers=SOME, way='near')
        self.same(shows_one_answer(grid=TINY, numbers=SOME, way='near', value=told), True)
        told = best_tree(grid=TINY, numbers=SOME, way='near')
        self.same(shows_best_tree(grid=TINY, numbers=SOME, way='near', value=told), True)
        told = worst_tree(grid=TINY, numbers=SOME, way='near')
        self.same(shows_worst_tree(grid=TINY, numbers=SOME, way='near', value=told), True)


if __name__ == '__main__':
    unittest.main()
