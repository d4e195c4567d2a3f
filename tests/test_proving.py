"""Section 14: proved, or broken."""

import random
import unittest

from roundedsteps.boxes import halved, points, whole_box
from roundedsteps.claims import so_often
from roundedsteps.deciding import decided
from roundedsteps.errors import BadBox, BadClaim, BadTree
from roundedsteps.programs import Program
from roundedsteps.proving import leaves, parted, proved, proved_on, shows_parted, shows_proved, shows_proved_on, so_many
from tests import slow, slow_cuts
from tests.helping import Case, exchanged_at, some_box, some_claims, some_program, variants, wrong_values
from tests.test_boxes import BACK, WHOLE, wrong_boxes
from tests.test_runs import turned_about, without_products

SAME = ('same', 't', 'a')
NEAR = ('cut', 'a', 94, ('box',), ('cut', 'b', 5, ('box',), ('box',)))


def chain(numbers, leaf):
    """A tree that cuts behind each of these numbers, one behind the other."""
    tree = leaf
    for number in reversed(numbers):
        tree = ('cut', 'a', number, leaf, tree)
    return tree


def some_tree(chance, program, box, words):
    """A tree of some cuts of a box."""
    if halved(program, box) is None or chance.random() < 0.3:
        return (chance.choice(words),)
    places = [place for place, (low, high) in enumerate(box) if low < high]
    place = chance.choice(places)
    numbers = sorted({row[place] for row in slow.inputs_of(program, box)})
    cut = chance.randrange(len(numbers) - 1)
    parts = [box[:place] + (pair,) + box[place + 1:] for pair in ((numbers[0], numbers[cut]), (numbers[cut + 1], numbers[-1]))]
    return ('cut', program.inputs[place][0], numbers[cut], *[some_tree(chance, program, part, words) for part in parts])


def wrong_trees():
    """Values that are no trees of BACK, whatever their leaves are called."""
    leaf = ('box',)
    rows = [('cut', 'a', 94, leaf), ('cut', 'a', 94, leaf, leaf, leaf), ['cut', 'a', 94, leaf, leaf], ['box'], 'box',
            ('box', 'box'), ('cut',), ('cut', 'a', 120, leaf, leaf), ('cut', 'a', 89, leaf, leaf), ('cut', 'a', 80, leaf, leaf),
            ('cut', 'a', 101, leaf, leaf), ('cut', 'a', True, leaf, leaf), ('cut', 'a', None, leaf, leaf),
            ('cut', 'a', '94', leaf, leaf), ('cut', 'c', 94, leaf, leaf), ('cut', 's', 94, leaf, leaf),
            ('cut', 'b', 94, leaf, leaf), ('cut', 'b', 9, leaf, leaf), ('cut', 0, 94, leaf, leaf), ('Cut', 'a', 94, leaf, leaf),
            ('cut', ['a'], 94, leaf, leaf), ('cut', 'a', 94, leaf, ('out',)), ('cut', 'a', 94, leaf, None),
            ('cut', 'a', 94, ('cut', 'a', 94, leaf, leaf), leaf), ('cut', 'a', 94, leaf, ('cut', 'a', 94, leaf, leaf)),
            ('cut', 'a', 94, ('cut', 'a', 100, leaf, leaf), leaf), ('cut', 'a', 94, leaf, ['box']), ('cut', 94, 'a', leaf, leaf),
            ('cut', 'b', 5, ('cut', 'b', 5, leaf, leaf), leaf), ('broken', (96, 5)), ('cut', leaf), (leaf,), ('cut', BACK)]
    return wrong_values() + rows


class Against(Case):
    """All sorts of claims, proved and broken, held against all inputs, and values near what is told."""

    def test_proved(self):
        chance = random.Random(61)
        found = set()
        for _ in range(250):
            program = some_program(chance, most_steps=5, most_numbers=5)
            rows = slow.inputs_of(program)
            for claim in chance.sample(some_claims(chance, program), 4):
                told = proved(program, claim)
                so = all([slow.is_so(program, claim, row) for row in rows])
                self.assertEqual(told[0], 'cut' if so else 'broken')
                found.add((claim[0], so))
                self.assertTrue(slow_cuts.proves(program, claim, told))
                for value in variants(chance, told, 8):
                    self.assertIs(shows_proved(program, claim, value), slow_cuts.proves(program, claim, value))
                points_tree = self.all_points(program)
                self.assertIs(shows_proved(program, claim, ('cut', points_tree)), so)
        kinds = {'sound', 'within', 'atmost', 'same', 'plain', 'nearest', 'off', 'sure', 'straight'}
        self.assertEqual(found, {(kind, so) for kind in kinds for so in (True, False)})

    def all_points(self, program):
        """The tree whose leaves are all points."""
        def of(box):
            halves = halved(program, box)
            if halves is None:
                return ('box',)
            place = next(place for place in range(len(box)) if halves[0][place] != box[place])
            return ('cut', program.inputs[place][0], halves[0][place][1], of(halves[0]), of(halves[1]))
        return of(whole_box(program))

    def test_proved_on(self):
        chance = random.Random(62)
        found = set()
        for _ in range(200):
            program = some_program(chance, most_steps=5)
            box = some_box(chance, program)
            for claim in chance.sample(some_claims(chance, program), 3):
                told = proved_on(program, claim, box)
                found.add(told[0])
                so = all([slow.is_so(program, claim, row) for row in slow.inputs_of(program, box)])
                self.assertEqual(told[0], 'cut' if so else 'broken')
                for value in variants(chance, told, 8):
                    self.assertIs(shows_proved_on(program, claim, box, value), slow_cuts.proves(program, claim, value, box))
                whole = proved(program, claim)
                self.assertIs(shows_proved_on(program, claim, box, whole), slow_cuts.proves(program, claim, whole, box))
                self.assertEqual(proved_on(program, claim, whole_box(program)), whole)
        self.assertEqual(found, {'cut', 'broken'})

    def test_parted(self):
        chance = random.Random(63)
        words = set()
        for _ in range(150):
            program = some_program(chance, most_steps=5, most_numbers=5)
            for claim in chance.sample(some_claims(chance, program), 2):
                told = parted(program, claim)
                self.assertTrue(slow_cuts.parts_by(program, claim, told))
                self.same(so_many(program, told), sum(slow.is_so(program, claim, row) for row in slow.inputs_of(program)))
                self.same(so_many(program, told), so_often(program, claim))
                words.add(str(told).count('so') > 0)
                for value in variants(chance, told, 10):
                    self.assertIs(shows_parted(program, claim, value), slow_cuts.parts_by(program, claim, value))
        self.assertEqual(words, {True, False})

    def test_trees(self):
        chance = random.Random(64)
        wrong = 0
        for _ in range(200):
            program = some_program(chance, most_steps=1)
            box = whole_box(program)
            for words, call in ((('box',), leaves), (('so', 'not'), so_many)):
                for value in variants(chance, some_tree(chance, program, box, words), 10):
                    rows = slow_cuts.gone_down(program, box, value, words)
                    if rows is None:
                        wrong += 1
                        self.refused(BadTree, value, call, program, value)
                    elif call is leaves:
                        self.same(leaves(program, value), tuple(part for _, part in rows))
                    else:
                        many = sum(len(slow.inputs_of(program, part)) for word, part in rows if word == 'so')
                        self.same(so_many(program, value), many)
        self.assertGreater(wrong, 1000)

    def test_turned_about(self):
        chance = random.Random(65)
        for program in without_products(chance, 40):
            other = turned_about(program)
            for claim in some_claims(chance, program):
                also = claim
                if claim[0] == 'within':
                    also = ('within', claim[1], -claim[3], -claim[2])
                elif claim[0] == 'atmost':
                    also = ('atmost', claim[2], claim[1])
                elif claim[0] == 'straight':
                    continue
                self.assertEqual(proved(program, claim)[0], proved(other, also)[0])


class Edges(Case):
    """What the section names."""

    def test_one_box(self):
        self.same(proved(BACK, ('within', 't', 86, 120)), ('cut', ('box',)))
        self.same(leaves(BACK, ('box',)), (WHOLE,))
        self.same(so_many(BACK, ('so',)), 65)
        self.same(so_many(BACK, ('not',)), 0)
        self.same(leaves(BACK, NEAR), (((90, 94), (5, 9)), ((95, 120), (5, 5)), ((95, 120), (6, 9))))

    def test_just_one_of_both(self):
        told = proved(BACK, SAME)
        self.assertEqual(told[0], 'broken')
        for value in (('cut', ('box',)), ('cut', NEAR), ('broken', (90, 5)), ('broken', (96, 5, 5)), ('broken', [96, 5]),
                      ('broken', (96, True)), ('broken', (96, 10)), ('broken',), ('broken', (96, 5), 1), ['broken', (96, 5)],
                      ('Broken', (96, 5)), (96, 5), None, ('cut',), ('cut', None), ('box',), NEAR, ('so', ('box',))):
            self.same(shows_proved(BACK, SAME, value), False)
        self.same(shows_proved(BACK, SAME, ('broken', (96, 5))), True)
        self.same(shows_proved(BACK, ('sound',), ('cut', NEAR)), True)
        self.same(shows_proved(BACK, ('sound',), ('broken', (96, 5))), False)

    def test_inputs_of_other_boxes(self):
        box = ((95, 99), (5, 5))
        self.same([shows_proved_on(BACK, SAME, box, ('broken', inputs)) for inputs in ((96, 5), (95, 5), (96, 6), (94, 7))],
                  [True, False, False, False])
        self.same(shows_proved_on(BACK, SAME, ((96, 99), (5, 5)), ('cut', ('cut', 'b', 5, ('box',), ('box',)))), False)

    def test_what_was_told_of_another_claim(self):
        tree = parted(BACK, SAME)
        self.same(shows_parted(BACK, SAME, tree), True)
        self.same(shows_parted(BACK, ('plain', 't'), tree), False)
        self.same(shows_parted(BACK, SAME, ('so',)), False)
        self.same([shows_parted(BACK, ('sound',), value) for value in (('so',), ('not',), ('box',), ('in',), ['so'], 'so')],
                  [True, False, False, False, False, False])

    def test_wrong_trees_show_nothing(self):
        for value in wrong_trees():
            self.same(shows_proved(BACK, ('sound',), ('cut', value)), False)
            self.same(shows_proved(BACK, ('sound',), value), value == ('cut', ('box',)))
            self.same(shows_parted(BACK, ('sound',), value), False)

    def test_over_and_nought(self):
        program = Program('grid 2 2 1 0\ninput a -6 6\ns = a / 0\nt = a + 0\ntell a')
        self.same(proved(program, ('sound',)), ('broken', (-6,)))
        self.same(parted(program, ('sound',)).count('cut'), 1)
        self.same(so_many(program, parted(program, ('within', 'a', -6, 6))), 0)
        program = Program('grid 2 2 1 0\ninput a -6 6\ns = 4 / a\ntell s')
        self.same(proved(program, ('sound',)), ('broken', (0,)))
        self.same(so_many(program, parted(program, ('sound',))), so_often(program, ('sound',)))
        self.same(proved_on(program, ('sound',), ((1, 6),)), ('cut', ('box',)))
        program = Program('grid 2 2 1 0\ninput a -6 6\ns = a + a\ntell s')
        self.same(so_many(program, parted(program, ('sound',))), 7)

    def test_deep_trees(self):
        text = 'grid 10 4 0 0\ninput a 0 4000\ns = a + 0\ntell s'
        program = Program(text)
        tree = chain(list(range(4000)), ('box',))
        found = leaves(program, tree)
        self.same(len(found), 4001)
        self.same(found[-1], ((4000, 4000),))
        self.same(shows_proved(program, ('same', 's', 'a'), ('cut', tree)), True)
        self.same(shows_parted(program, ('same', 's', 'a'), chain(list(range(4000)), ('so',))), True)
        self.same(so_many(program, chain(list(range(4000)), ('so',))), 4001)
        self.same(so_many(program, chain(list(range(4000)), ('not',))), 0)
        wrong = chain(list(range(4000)) + [4000], ('box',))
        self.refused(BadTree, wrong, leaves, program, wrong)
        self.same(shows_proved(program, ('same', 's', 'a'), ('cut', wrong)), False)
        self.same(shows_proved(program, ('same', 's', 'a'), ('cut', ('cut', 'a', 7, ('box',), tree))), False)

    def test_great_boxes(self):
        program = Program(f'grid 10 30 60 0\ninput a -1 {10 ** 89}\nd = most a 0\ne = least a 0\nf = choose a 0 e d\ntell f')
        claim = ('same', 'f', 'a')
        told = proved(program, claim)
        self.same(told[0], 'cut')
        self.same(shows_proved(program, claim, told), True)
        found = leaves(program, told[1])
        self.assertGreater(len(found), 100)
        self.same(sum(points(program, box) for box in found), points(program, whole_box(program)))
        deepest = (3,) * 100
        self.same(shows_proved(program, claim, ('cut', exchanged_at(told[1], deepest, ('so',)))), False)
        self.same(shows_proved(program, claim, ('cut', exchanged_at(told[1], deepest, ('box',)))), False)
        self.same(shows_proved(program, ('same', 'f', 'd'), told), False)
        tree = parted(program, claim)
        self.same(so_many(program, tree), points(program, whole_box(program)))
        self.same(shows_parted(program, claim, tree), True)


class Refused(Case):
    """Wrong arguments, the first error first."""

    def test_claims(self):
        for value in wrong_values() + [('sound', 'a'), ('same', 't'), ('straight', 't'), ['sound'], 'sound', (('sound',),)]:
            for call, told in ((proved, ()), (shows_proved, (None,)), (proved_on, (None,)), (shows_proved_on, (None, None)),
                               (parted, ()), (shows_parted, (('so',),))):
                self.refused(BadClaim, value, call, BACK, value, *told)

    def test_boxes(self):
        for value in wrong_boxes():
            self.refused(BadBox, value, proved_on, BACK, ('sound',), value)
            self.refused(BadBox, value, shows_proved_on, BACK, ('sound',), value, ('cut', ('box',)))

    def test_trees(self):
        for value in wrong_trees():
            self.refused(BadTree, value, leaves, BACK, value)
            self.refused(BadTree, value, so_many, BACK, value)
        for value in (('so',), ('not',), ('in',), ('cut', 'a', 94, ('so',), ('box',))):
            self.refused(BadTree, value, leaves, BACK, value)
        for value in (('box',), ('in',), NEAR, ('cut', 'a', 94, ('so',), ('box',)), ('open',)):
            self.refused(BadTree, value, so_many, BACK, value)

    def test_named_arguments(self):
        self.same(leaves(program=BACK, tree=('box',)), (WHOLE,))
        self.same(proved(program=BACK, claim=('sound',)), ('cut', ('box',)))
        self.same(shows_proved(program=BACK, claim=('sound',), value=('cut', ('box',))), True)
        self.same(proved_on(program=BACK, claim=('sound',), box=WHOLE), ('cut', ('box',)))
        self.same(shows_proved_on(program=BACK, claim=('sound',), box=WHOLE, value=('cut', ('box',))), True)
        self.same(parted(program=BACK, claim=('sound',)), ('so',))
        self.same(shows_parted(program=BACK, claim=('sound',), value=('so',)), True)
        self.same(so_many(program=BACK, tree=('so',)), 65)

    def test_equal_calls_tell_equal_results(self):
        for claim in (SAME, ('sound',), ('plain', 's')):
            self.assertEqual(proved(BACK, claim), proved(Program(BACK.text), claim))
            self.assertEqual(parted(BACK, claim), parted(Program(BACK.text), claim))
            self.assertIn(decided(BACK, claim, WHOLE), ('so', 'open'))


if __name__ == '__main__':
    unittest.main()
