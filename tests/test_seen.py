"""Section 20: what results leave."""

import random
import unittest

from roundedsteps.errors import BadClaim, BadInputs, BadLooks, BadTree, NoName
from roundedsteps.programs import Program
from roundedsteps.seen import (how_many, is_left, left_boxes, left_tree, shows_left_tree, shows_spread, shows_surely, spread,
                               surely)
from tests import slow, slow_cuts
from tests.helping import Case, some_claims, some_number, some_program, variants, wrong_values
from tests.test_boxes import BACK
from tests.test_proving import chain, some_tree, wrong_trees

SMALL = Program('grid 2 2 3 0\ninput x 0 12\ns = x + 1\nt = s - x\ntell t')
SEEN = (('t', 1, 2),)
TREE = ('cut', 'x', 2, ('in',), ('cut', 'x', 3, ('in',), ('cut', 'x', 4, ('out',), ('cut', 'x', 6, ('in',), ('out',)))))


def some_looks(chance, program, most=6):
    """Looks at a program, around worths that its names have."""
    found = []
    rows = slow.inputs_of(program)
    for _ in range(chance.choice([0, 1, 1, 2, 3, most])):
        name = chance.choice(program.names)
        worth = int(slow.walk(program, chance.choice(rows))[0].get(name, 0))
        low, high = sorted([some_number(chance, program.grid), some_number(chance, program.grid)])
        if worth in program.grid and chance.random() < 0.8:
            low, high = min(low, worth), max(worth, high)
        found.append((name, low, high))
    return tuple(found)


def wrong_looks():
    """Values that are no looks at SMALL."""
    look = ('t', 1, 2)
    return [value for value in wrong_values() if value != ()] + [
        look, [look], (list(look),), (look,) * 7, (('t', 2, 1),), (('u', 1, 2),), (('t', 1),), (('t', 1, 2, 3),), (('t', 5, 6),),
        (('t', 1, 5),), (('t', True, 2),), (('t', 0, False),), (('t', None, 2),), (('t', '1', '2'),), ((1, 2, 't'),), (look, None),
        (('t', -32, 2),), (('t', 1, 25),), ((('t',), 1, 2),), ((look,),), (look, ('x', 3, 2)), ((SMALL, 1, 2),), 't', ('t',)]


class Slow:
    """A program with looks, all inputs gone through."""

    def __init__(self, program, looks):
        self.program, self.looks = program, looks
        self.claims = [('within', *look) for look in looks] or [('sound',)]
        self.left = [row for row in slow.inputs_of(program) if all(slow.is_so(program, claim, row) for claim in self.claims)]

    def worth(self, name, row):
        return slow.walk(self.program, row)[0][name]

    def rows(self, tree, words=('in', 'out')):
        return slow_cuts.gone_down(self.program, slow_cuts.whole(self.program), tree, words)

    def verdicts(self, box):
        return {slow_cuts.decided(self.program, claim, box) for claim in self.claims}

    def shows_tree(self, value):
        rows = self.rows(value)
        return rows is not None and all(self.verdicts(box) == {'so'} if word == 'in' else 'not' in self.verdicts(box)
                                        for word, box in rows)

    def is_broken(self, claim, value):
        return slow_cuts.are_inputs(self.program, value) and value in self.left and not slow.is_so(self.program, claim, value)

    def shows_surely(self, claim, value):
        if type(value) is not tuple or len(value) != 2:
            return False
        if value[0] == 'broken':
            return self.is_broken(claim, value[1])
        rows = self.rows(value[1]) if value[0] == 'surely' else None
        return rows is not None and all(slow_cuts.decided(self.program, claim, box) == 'so' if word == 'in'
                                        else 'not' in self.verdicts(box) for word, box in rows)

    def shows_spread(self, name, value):
        if type(value) is not tuple:
            return False
        if not self.left:
            return value == ('none',)
        if len(value) != 5 or value[0] != 'worths':
            return False
        found = [self.worth(name, row) for row in self.left]
        for worth, row, best in ((value[1], value[2], min(found)), (value[3], value[4], max(found))):
            if type(worth) is not int or worth != best or not slow_cuts.are_inputs(self.program, row):
                return False
            if row not in self.left or self.worth(name, row) != best:
                return False
        return True


class Against(Case):
    """Held against all inputs, and values near what is told."""

    def test_left(self):
        chance = random.Random(121)
        counts = {'none': 0, 'some': 0, 'all': 0}
        for _ in range(200):
            program = some_program(chance, most_steps=5, most_numbers=5)
            looks = some_looks(chance, program)
            told = Slow(program, looks)
            rows = slow.inputs_of(program)
            counts['none' if not told.left else 'all' if len(told.left) == len(rows) else 'some'] += 1
            for row in rows[::3]:
                self.same(is_left(program, looks, row), row in told.left)
            self.same(how_many(program, looks), len(told.left))
            tree = left_tree(program, looks)
            self.assertTrue(told.shows_tree(tree))
            boxes = left_boxes(program, tree)
            self.same(boxes, tuple(sorted(boxes)))
            self.assertEqual(sorted(row for box in boxes for row in slow.inputs_of(program, box)), told.left)
            for value in variants(chance, tree, 10):
                self.assertIs(shows_left_tree(program, looks, value), told.shows_tree(value))
        self.assertGreater(min(counts.values()), 20, counts)

    def test_left_boxes(self):
        chance = random.Random(122)
        for _ in range(120):
            program = some_program(chance, most_steps=1)
            tree = some_tree(chance, program, slow_cuts.whole(program), ('in', 'out'))
            for value in variants(chance, tree, 10):
                rows = slow_cuts.gone_down(program, slow_cuts.whole(program), value, ('in', 'out'))
                if rows is None:
                    self.refused(BadTree, value, left_boxes, program, value)
                else:
                    self.same(left_boxes(program, value), tuple(sorted(box for word, box in rows if word == 'in')))

    def test_surely(self):
        chance = random.Random(123)
        words = {'surely': 0, 'broken': 0}
        for _ in range(150):
            program = some_program(chance, most_steps=5, most_numbers=5)
            looks = some_looks(chance, program)
            told = Slow(program, looks)
            for claim in chance.sample(some_claims(chance, program), 2):
                value = surely(program, looks, claim)
                words[value[0]] += 1
                broken = any(told.is_broken(claim, row) for row in told.left)
                self.assertEqual(value[0], 'broken' if broken else 'surely')
                self.assertTrue(told.shows_surely(claim, value))
                for part in variants(chance, value, 8):
                    self.assertIs(shows_surely(program, looks, claim, part), told.shows_surely(claim, part))
        self.assertGreater(min(words.values()), 30)

    def test_spread(self):
        chance = random.Random(124)
        words = {'none': 0, 'worths': 0}
        for _ in range(200):
            program = some_program(chance, most_steps=5, most_numbers=5)
            looks = some_looks(chance, program)
            told = Slow(program, looks)
            name = chance.choice(program.names)
            value = spread(program, looks, name)
            words[value[0]] += 1
            self.assertTrue(told.shows_spread(name, value))
            for part in variants(chance, value, 12):
                self.assertIs(shows_spread(program, looks, name, part), told.shows_spread(name, part))
        self.assertGreater(min(words.values()), 30)


class Edges(Case):
    """What the section names."""

    def test_the_example(self):
        self.same([how_many(SMALL, SEEN), how_many(SMALL, ()), is_left(SMALL, SEEN, (4,)), is_left(SMALL, (), (4,))],
                  [5, 8, False, True])
        self.same(spread(SMALL, SEEN, 's'), ('worths', 1, (0,), 8, (6,)))
        self.same(surely(SMALL, SEEN, ('within', 'x', 0, 3)), ('broken', (6,)))
        self.same(surely(SMALL, SEEN, ('within', 'x', 0, 6))[0], 'surely')
        self.same(left_boxes(SMALL, TREE), (((0, 2),), ((3, 3),), ((6, 6),)))

    def test_a_word_that_is_not_decided(self):
        # From 8 on s is 8 and 12, so t may be from -4 to 4 there, as ranges go.
        self.same(shows_left_tree(SMALL, SEEN, TREE), False)
        end = ('cut', 'x', 8, ('out',), ('out',))
        right = ('cut', 'x', 2, ('in',), ('cut', 'x', 3, ('in',), ('cut', 'x', 4, ('out',), ('cut', 'x', 6, ('in',), end))))
        self.same(shows_left_tree(SMALL, SEEN, right), True)
        for tree in (('in',), ('out',), ('cut', 'x', 3, ('in',), ('out',)), ('box',), ['in'], 'in', None, ('so',)):
            self.same(shows_left_tree(SMALL, SEEN, tree), False)
        self.same([shows_left_tree(SMALL, (), tree) for tree in (('in',), ('out',), ('cut', 'x', 3, ('in',), ('in',)))],
                  [True, False, True])

    def test_six_looks(self):
        looks = (('x', 0, 8), ('x', 1, 12), ('s', 2, 12), ('s', 2, 8), ('t', 0, 1), ('t', 0, 12))
        self.same([row for row in range(13) if row in SMALL.grid and is_left(SMALL, looks, (row,))], [1, 2, 3, 4, 8])
        self.same(how_many(SMALL, looks), 5)
        self.same(spread(SMALL, looks, 'x'), ('worths', 1, (1,), 8, (8,)))

    def test_nothing_is_left(self):
        looks = (('t', 3, 12),)
        self.same([how_many(SMALL, looks), spread(SMALL, looks, 'x'), surely(SMALL, looks, ('within', 'x', 99, 99))[0]],
                  [0, ('none',), 'surely'])
        self.same([shows_spread(SMALL, looks, 'x', value) for value in (('none',), ['none'], 'none', ('none', 1), ('worths',), None)],
                  [True, False, False, False, False, False])
        self.same(left_boxes(SMALL, left_tree(SMALL, looks)), ())
        self.same(shows_surely(SMALL, looks, ('same', 's', 'x'), ('surely', left_tree(SMALL, looks))), True)

    def test_runs_that_do_not_tell(self):
        program = Program('grid 2 2 3 0\ninput x -4 4\nd = 4 / x\ne = 24 / d\nf = e + e\ntell f')
        rows = [row for row in slow.inputs_of(program) if slow.walk(program, row)[1] is None]
        self.same(how_many(program, ()), len(rows))
        self.assertIn((0,), [row for row in slow.inputs_of(program) if row not in rows])
        # x comes everywhere, but what does not tell is not left.
        self.same(how_many(program, (('x', -4, 4),)), len(rows))
        self.same(is_left(program, (('x', -4, 4),), (0,)), False)
        self.same(surely(program, (), ('sound',))[0], 'surely')
        self.same(surely(program, (('x', -4, 4),), ('within', 'x', -4, 4))[0], 'surely')
        never = Program('grid 2 2 3 0\ninput x -4 4\nd = x / 0\ntell d')
        self.same([how_many(never, ()), spread(never, (), 'x'), surely(never, (), ('plain', 'x'))[0]], [0, ('none',), 'surely'])
        self.same(left_boxes(never, left_tree(never, ())), ())

    def test_in_wherever_the_claim_is_so(self):
        self.same(shows_surely(SMALL, SEEN, ('sound',), ('surely', ('in',))), True)
        self.same(shows_surely(SMALL, SEEN, ('within', 'x', 0, 3), ('surely', ('in',))), False)
        cut = ('cut', 'x', 4, ('in',), ('out',))
        self.same(shows_surely(SMALL, (('x', 0, 4),), ('within', 'x', 0, 4), ('surely', cut)), True)
        self.same(shows_surely(SMALL, (('x', 0, 6),), ('within', 'x', 0, 6), ('surely', cut)), False)
        self.same(shows_surely(SMALL, SEEN, ('within', 'x', 0, 3), ('broken', (6,))), True)
        for value in ((0,), (8,), (4,), 6, [6], (6, 6), None, (True,)):
            self.same(shows_surely(SMALL, SEEN, ('within', 'x', 0, 3), ('broken', value)), False)

    def test_true_is_not_one(self):
        self.same(shows_spread(SMALL, SEEN, 's', ('worths', 1, (0,), 8, (6,))), True)
        for value in (('worths', True, (0,), 8, (6,)), ('worths', 1, (False,), 8, (6,)), ('worths', 1, (0,), 8, (6,), None),
                      ['worths', 1, (0,), 8, (6,)], ('worths', 1, (0,), 8), ('worths', 8, (6,), 1, (0,)), ('worths', 1, (0,), 8, (4,)),
                      ('worths', 1, (1,), 8, (6,)), ('worths', 1, 0, 8, 6), ('none',), ('worths', 1, (0,), 12, (12,))):
            self.same(shows_spread(SMALL, SEEN, 's', value), False)

    def test_deep_trees(self):
        program = Program('grid 10 4 0 0\ninput a 0 4000\ns = a + 0\ntell s')
        tree = chain(list(range(4000)), ('in',))
        self.same(len(left_boxes(program, tree)), 4001)
        self.same(shows_left_tree(program, (), tree), True)
        self.same(shows_surely(program, (), ('same', 'a', 's'), ('surely', tree)), True)
        self.same(how_many(program, (('s', 5, 9),)), 5)

    def test_values_of_any_kind(self):
        for value in wrong_trees():
            self.refused(BadTree, value, left_boxes, BACK, value)
            self.same(shows_left_tree(BACK, (), value), False)
            self.same(shows_surely(BACK, (), ('sound',), value), False)
            self.same(shows_surely(BACK, (), ('sound',), ('surely', value)), False)
            self.same(shows_surely(BACK, (), ('plain', 's'), ('broken', value)), False)
            self.same(shows_spread(BACK, (), 's', value), False)
            self.same(shows_spread(BACK, (), 'b', ('worths', value, (90, 5), 9, (90, 9))), False)
            self.same(shows_spread(BACK, (), 'b', ('worths', 5, value, 9, (90, 9))), False)
            self.same(shows_spread(BACK, (), 'b', ('worths', 5, (90, 5), 9, value)), False)
        self.same(shows_spread(BACK, (), 'b', ('worths', 5, (90, 5), 9, (90, 9))), True)


class Refused(Case):
    """Wrong arguments, the first error first."""

    def test_looks(self):
        calls = ((is_left, (None,)), (left_tree, ()), (shows_left_tree, (None,)), (how_many, ()), (surely, (None,)),
                 (shows_surely, (None, None)), (spread, (None,)), (shows_spread, (None, None)))
        for value in wrong_looks():
            for call, told in calls:
                self.refused(BadLooks, value, call, SMALL, value, *told)

    def test_inputs(self):
        for value in wrong_values() + [(5,), (16,), [4], (4, 4), 4, (-1,)]:
            if value != (1,):
                self.refused(BadInputs, value, is_left, SMALL, SEEN, value)

    def test_claims(self):
        for value in wrong_values() + [('sound', 'a'), ('same', 't'), ('straight', 't'), ['sound'], 'sound', (('sound',),)]:
            self.refused(BadClaim, value, surely, SMALL, SEEN, value)
            self.refused(BadClaim, value, shows_surely, SMALL, SEEN, value, ('broken', (6,)))

    def test_names(self):
        for value in wrong_values() + ['u', 'X', ['x'], ('x',), 0]:
            if value != 'x':
                self.refused(NoName, value, spread, SMALL, SEEN, value)
                self.refused(NoName, value, shows_spread, SMALL, SEEN, value, ('none',))

    def test_trees(self):
        leaf = ('in',)
        for value in [('box',), ('so',), ('cut', 'x', 12, leaf, leaf), ('cut', 'x', 5, leaf, leaf), ('cut', 'x', 2, leaf, ('so',)),
                      ('cut', 'x', 2, leaf), ('cut', 's', 2, leaf, leaf), ('cut', 'x', True, leaf, leaf), ['in'], ('in', 'in')]:
            self.refused(BadTree, value, left_boxes, SMALL, value)

    def test_named_arguments(self):
        self.same(is_left(program=SMALL, looks=SEEN, inputs=(6,)), True)
        tree = left_tree(program=SMALL, looks=SEEN)
        self.same(shows_left_tree(program=SMALL, looks=SEEN, value=tree), True)
        self.same(left_boxes(program=SMALL, tree=('out',)), ())
        self.same(how_many(program=SMALL, looks=SEEN), 5)
        told = surely(program=SMALL, looks=SEEN, claim=('sound',))
        self.same(shows_surely(program=SMALL, looks=SEEN, claim=('sound',), value=told), True)
        told = spread(program=SMALL, looks=SEEN, name='x')
        self.same(shows_spread(program=SMALL, looks=SEEN, name='x', value=told), True)


if __name__ == '__main__':
    unittest.main()
