"""The examples of sections 4 to 30, as they stand in the document."""

import doctest
import unittest

EXAMPLES = r"""
>>> from roundedsteps.grids import Grid
>>> grid = Grid(10, 2, 2, 1)
>>> [grid.greatest, 99 in grid, 101 in grid, 990 in grid, 995 in grid, grid.spacing(0), grid.spacing(120)]
[9900, True, False, True, False, 1, 10]
>>> [grid.rank(100), grid.rank(-99), grid.rank(9900), grid.after(99), grid.after(100), grid.before(100), grid.after(9900), grid.many(90, 120)]
[100, -99, 279, 100, 110, 99, None, 13]
>>> [Grid(2, 2, 2, 0).number(rank) for rank in range(8)]
[0, 1, 2, 3, 4, 6, 8, 12]

>>> from roundedsteps.rounding import around, is_tie, rest, rounded, split_sum
>>> [[rounded(grid, top, 2, way, 0) for way in ('near', 'down', 'up', 'zero')] for top in (-1999, 199, 201)]
[[-1000, -1000, -990, -990], [100, 99, 100, 99], [100, 100, 110, 100]]
>>> [rounded(grid, 105, 1, 'near', 0), rounded(grid, 115, 1, 'near', 0), rounded(grid, 9950, 1, 'near', 0), rounded(grid, 9949, 1, 'near', 1), rest(grid, 1, 3, 'up', 0), rest(grid, 9950, 1, 'zero', 0)]
[100, 120, None, 9950, (-2, 3), (50, 1)]
>>> [is_tie(grid, 9950, 1, 0), is_tie(grid, 100, 1, 0), around(grid, -1999, 2, 0), split_sum(grid, 990, 45), split_sum(grid, 9900, 60)]
[True, False, (-1000, -990), (1000, 35), None]

>>> from roundedsteps.parts import cross_signs, plain_sum, product_row, renewed, row_worth, shows_shortest
>>> [row_worth(grid, (990, 45, -7)), plain_sum(grid, (990, 45, -7)), renewed(grid, 1028), renewed(grid, -9899), renewed(grid, 9450)]
[1028, (990, (35, 3)), (1000, 28), (-9900, 1), (9400, 50)]
>>> [shows_shortest(grid, 1028, (930, 98)), shows_shortest(grid, 1028, (990, 45, -7)), renewed(Grid(2, 1, 5, 0), 27)]
[True, False, (32, -4, -1)]
>>> four = Grid(10, 2, 4, 0)
>>> [product_row(four, 97, 97), product_row(four, 99, 95), cross_signs(four, (97, 95, 99, 97))]
[(9400, 9), (9400, 5), (1, 0)]

>>> from roundedsteps.programs import joined, Program
>>> there = Program('grid 2 3 2 0\ninput a 0 7\ninput b 0 7\ns = a + b\nt = s - b\ntell t')
>>> [there.inputs, there.steps[1], there.told, len(there), 's' in there, 'c' in there]
[(('a', 0, 7), ('b', 0, 7)), ('t', '-', ('s', 'b'), 0, 'near'), ('t',), 2, True, False]
>>> there.with_more((('s', 1),)).text.split('\n')[3]
's = a + b keep 1'
>>> joined(there, Program('grid 2 3 2 0\ninput a 0 7\ninput b 0 7\ntell a')).text.split('\n')[3:]
['p1 = a + b', 'p2 = p1 - b', 'tell p2 a']

>>> from roundedsteps.runs import exact_run, mixed_run, off_by, run, worths
>>> [run(there, (1, 7)), run(there, (2, 7)), worths(there, (2, 7)), exact_run(there, (2, 7))]
[('tells', (1,)), ('tells', (1,)), (('a', 2), ('b', 7), ('s', 8), ('t', 1)), ('tells', ((2, 1),))]
>>> [mixed_run(there, (2, 7), ('s',)), mixed_run(there, (2, 7), ()), off_by(there, (2, 7))]
[('tells', ((2, 1),)), ('tells', ((1, 1),)), ((-1, 1),)]

>>> from roundedsteps.boxes import cut_at, halved, inputs_at, points, whole_box
>>> from roundedsteps.programs import Program
>>> back = Program('grid 10 2 2 0\ninput a 90 120\ninput b 5 9\ns = a + b\nt = s - b\ntell t')
>>> [whole_box(back), points(back, whole_box(back)), inputs_at(back, whole_box(back), 52)]
[((90, 120), (5, 9)), 65, (100, 7)]
>>> [halved(back, whole_box(back)), cut_at(back, ((95, 95), (5, 9)), 'b', 5), halved(back, ((95, 95), (7, 7)))]
[(((90, 96), (5, 9)), ((97, 120), (5, 9))), (((95, 95), (5, 5)), ((95, 95), (6, 9))), None]

>>> from roundedsteps.ranges import exact_ranges, ranges
>>> ranges(back, ((95, 99), (5, 5)))
(('a', (95, 99)), ('b', (5, 5)), ('s', (100, 100)), ('t', (95, 95)))
>>> [ranges(back, whole_box(back))[2:], exact_ranges(back, ((95, 99), (5, 6)))[2:]]
[(('s', (95, 130)), ('t', (86, 120))), (('s', ((100, 1), (105, 1))), ('t', ((94, 1), (100, 1))))]

>>> from roundedsteps.boxes import whole_box
>>> from roundedsteps.lines import alike, line_ends, lines
>>> from roundedsteps.programs import Program
>>> two = Program('grid 2 3 4 0\ninput a 8 14\ninput b 8 14\ns = a + b\nd = a - b\nm = most a d\nt = b + m\ntell s t')
>>> lines(two, whole_box(two))
(('a', (0, 1, 0)), ('b', (0, 0, 1)), ('s', None), ('d', (0, 1, -1)), ('m', (0, 1, 0)), ('t', None))
>>> [line_ends((0, 1, -1), whole_box(two)), alike(two, whole_box(two))]
[(-6, 6), (('a', 'm'), ('b',), ('s', 't'), ('d',))]

>>> from roundedsteps.claims import broken_by, is_so, so_often
>>> from roundedsteps.programs import Program
>>> pair = Program('grid 2 2 3 0\ninput a 0 6\ninput b 1 4\ns = a + b\nt = s - b\ntell t')
>>> wish = ('same', 't', 'a')
>>> [is_so(pair, wish, (3, 2)), is_so(pair, wish, (1, 2)), is_so(pair, ('off', 't', 1), (3, 2)), is_so(pair, ('nearest', 's'), (3, 2))]
[False, True, True, True]
>>> [broken_by(pair, (('sound',), wish, ('plain', 's'), ('within', 't', 0, 2)), (3, 2)), so_often(pair, wish)]
[(1, 2), 16]

>>> from roundedsteps.deciding import decided, first_open
>>> [decided(pair, wish, box) for box in (((0, 2), (1, 1)), ((2, 3), (2, 2)), ((3, 3), (2, 2)))]
['so', 'open', 'not']
>>> first_open(pair, (('sound',), ('within', 't', -4, 8), wish), ((0, 6), (1, 4)))
2

>>> from roundedsteps.proving import leaves, proved, shows_proved, so_many
>>> [proved(back, ('same', 't', 'a'))[0], shows_proved(back, ('same', 't', 'a'), ('broken', (96, 5))), shows_proved(back, ('within', 't', 86, 120), ('cut', ('box',)))]
['broken', True, True]
>>> near = ('cut', 'a', 94, ('box',), ('cut', 'b', 5, ('box',), ('box',)))
>>> [leaves(back, near), so_many(back, ('cut', 'a', 94, ('so',), ('not',)))]
[(((90, 94), (5, 9)), ((95, 120), (5, 5)), ((95, 120), (6, 9))), 25]

>>> from roundedsteps.fewest import fewest, pins, reaches, shows_pins
>>> twice = Program('grid 10 1 1 0\ninput a 1 9\ns = a + a\nt = s - a\ntell t')
>>> [reaches(twice, ('within', 't', 1, 10), 4), len(fewest(twice, ('within', 't', 1, 10))[1]), shows_pins(twice, ('within', 't', 1, 10), (1, 5, 8))]
[7, 3, True]

>>> from roundedsteps.ends import farthest, greatest, shows_farthest, shows_turned, turned
>>> [greatest(two, 's')[:2], farthest(two, 's')[:2], shows_farthest(two, 'd', ('off', (0, 1), (8, 14), ('box',)))]
[('at', 28), ('off', (2, 1)), True]
>>> near = Program('grid 2 3 4 0\ninput a 8 14\ns = a + 8\nt = a + 10\ntell s t')
>>> [turned(near, 't', 's')[0], turned(near, 's', 't')[0], shows_turned(near, 's', 't', ('turned', (8,)))]
['straight', 'turned', True]

>>> from roundedsteps.alike import first_unlike, shows_same_for_all, unlike_many
>>> head = 'grid 2 3 4 0\ninput a 8 14\ninput b 8 14\n'
>>> sums = [Program(head + rest) for rest in ('s = a + b\ntell s', 's = b + a\ntell s', 'h = a - 8\nk = b + 8\ns = h + k\ntell s')]
>>> [shows_same_for_all(sums[0], sums[1], ('same', ('box',))), first_unlike(sums[0], sums[2]), unlike_many(sums[0], sums[2])[0]]
[True, (10, 10), 4]

>>> from roundedsteps.rules import led, led_by, leads, pruned
>>> [led(there, 'turn', 's').text.split('\n')[3], led(there, 'back', 't').text.split('\n')[3:], pruned(led(there, 'back', 't')).text.split('\n')[3:]]
['s = b + a', ['s = a + b', 'tell a'], ['tell a']]
>>> [leads(there), led_by(there, (('minus', 't'), ('group', 't'))).text.split('\n')[3:]]
[(('turn', 's'), ('back', 't'), ('minus', 't')), ['n1 = 0 - b', 'n2 = b + n1', 't = a + n2', 'tell t']]

>>> from roundedsteps.leastprogram import least_program, made, never_better, parting
>>> plain = Program('grid 2 3 2 0\ninput a 0 3\ninput b 0 3\ns = a + b\nt = s - b\ntell t')
>>> [parting(there, led(there, 'turn', 's')), parting(plain, pruned(led(plain, 'back', 't'))), least_program(plain, ((), (), 0)).told, made(plain, (('+', '-'), (1,), 1))]
[None, None, ('a',), 20]
>>> least_program(Program('grid 2 3 2 0\ninput a 0 3\ns = most a 0\nt = s + a\ntell t'), (('+',), (), 1)).text.split('\n')[2:]
['w1 = a + a', 'tell w1']

>>> from roundedsteps.programs import Program
>>> from roundedsteps.seen import how_many, is_left, left_boxes, shows_left_tree, shows_spread, spread, surely
>>> small = Program('grid 2 2 3 0\ninput x 0 12\ns = x + 1\nt = s - x\ntell t')
>>> seen = (('t', 1, 2),)
>>> [how_many(small, seen), is_left(small, seen, (4,)), spread(small, seen, 's'), surely(small, seen, ('within', 'x', 0, 3))]
[5, False, ('worths', 1, (0,), 8, (6,)), ('broken', (6,))]
>>> tree = ('cut', 'x', 2, ('in',), ('cut', 'x', 3, ('in',), ('cut', 'x', 4, ('out',), ('cut', 'x', 6, ('in',), ('cut', 'x', 8, ('out',), ('out',))))))
>>> [shows_left_tree(small, seen, tree), left_boxes(small, tree), shows_left_tree(small, seen, ('cut', 'x', 3, ('in',), ('out',)))]
[True, (((0, 2),), ((3, 3),), ((6, 6),)), False]

>>> from roundedsteps.looks import best_ask, cheapest_names, counted, knows, shows_best_ask
>>> [counted(small, (), 't'), best_ask(small, (), ('t',)), knows(small, seen, ('s',), 'x')[0], knows(small, (), ('s',), 'x')[0]]
[((0, 3), (1, 4), (2, 1)), ('ask', 't', 0, 3, 5), 'known', 'parts']
>>> [shows_best_ask(small, (), ('s', 't'), ('ask', 's', 4, 5, 3)), cheapest_names(small, (), (('s', 2), ('t', 2)), 'x')[:3]]
[True, ('names', 4, ('s', 't'))]

>>> from roundedsteps.apart import fewest_inputs, fitting, kinds, shows_plan
>>> three = tuple([Program('grid 2 2 3 0\ninput x 0 12\ns = x + 1' + way + '\ntell s') for way in ('', ' way down', ' way up')])
>>> [[one.steps[0][4] for one in three], kinds(three)]
[['near', 'down', 'up'], ((0,), (1,), (2,))]
>>> [fewest_inputs(three)[0], fitting(three, (((6,), (8,)),)), fitting(three, (((6,), (8,)), ((12,), (16,))))]
[2, (0, 2), (2,)]
>>> shows_plan(three, (2, ('ask', (6,), (((6,), ('kind', (1,))), ((8,), ('ask', (4,), (((4,), ('kind', (0,))), ((6,), ('kind', (2,))))))))))
True

>>> from roundedsteps.figures import cheapest, upward
>>> from roundedsteps.programs import Program
>>> back = Program('grid 2 3 4 0\ninput a 1 7\ninput b 1 7\ns = a + b\nt = s - a\ntell t')
>>> told = cheapest(back, ('same', 't', 'b'), (('t', 1), ('s', 4)))
>>> [told[:3], len(told[4]), cheapest(back, ('same', 't', 'b'), (('t', 9),))[0], upward(back, ('same', 't', 'b'), (('s', 1),))]
[('choice', 4, (('t', 0), ('s', 1))), 4, 'none', ('upward',)]

>>> from roundedsteps.blame import blamed, cure, holds_mixed, shares
>>> [blamed(back, ('same', 't', 'b'), (7, 2)), blamed(back, ('same', 't', 'b'), (1, 2)), shares(back, (7, 2))]
[(('s',),), ((),), (('s', (-1, 1)), ('t', (0, 1)))]
>>> [holds_mixed(back, ('same', 't', 'b'), ('t',), (7, 2)), cure(back, ('same', 't', 'b'), ((1, 7), (1, 7)))[:2], blamed(back, ('within', 't', 5, 5), (7, 2))]
[False, ('lot', ('s',)), ()]

>>> from roundedsteps.filters import least_bound, safe, sign_counts, sign_told
>>> sides = Program('grid 2 3 6 0\ninput a 5 7\ninput b 5 7\np = a * b\nq = b * b\nd = p - q\ntell d')
>>> [least_bound(sides, ())[:2], least_bound(sides, ())[3], sign_told(sides, (((), 0),), (6, 5)), sign_told(sides, (((), 0),), (5, 6))]
[('bound', 0), None, (0, 1), None]
>>> [sign_counts(sides, (((), 0), ((('p', 3), ('q', 3)), 0)), ((5, 7), (5, 7))), sign_counts(sides, (((), 8),), ((5, 7), (5, 7)))]
[(5, 1, 3), (1, 8)]

>>> from roundedsteps.folds import folded, least_closed, least_kept, shows_least_kept
>>> from roundedsteps.programs import Program
>>> lines = 'grid 2 3 4 0\ninput s 0 112\ninput p 1 3\nr = s + p\ntell r'
>>> adding = Program(lines)
>>> [folded(adding, 6, (3, 3, 1)), least_closed(adding, (0, 1)), least_kept(adding, (0, 1))]
[('tells', (6, 8, 12, 12)), ('closed', ((0, 32),)), ('kept', 0, 32)]
>>> short = Program(lines.replace('112', '20'))
>>> told = least_closed(short, (0, 1))
>>> [told[0], len(told[2]), folded(short, 20, (1, 2)), shows_least_kept(short, (20, 20), ('none', ((20, 2),)))]
['leaves', 7, (('left', 24), 1, (20, 20)), True]

>>> from roundedsteps.far import behind, drift, ring, stall, stuck
>>> from roundedsteps.grids import Grid
>>> tiny = Grid(2, 3, 4, 0)
>>> [stuck(adding, 3), ring(adding, 6, 3), behind(adding, 6, 3, 10 ** 12), behind(short, 6, 3, 9)]
[((32, 112),), ('ring', 7, 1), ('state', 32), (('left', 24), 4)]
>>> [stall(tiny, 0, 1, 'near'), stall(tiny, 0, 1, 'up'), drift(tiny, 0, 1, 'up', 10), drift(Grid(2, 20, 40, 0), 0, 1, 'near', 10 ** 15)]
[('stalls', 8, 8), ('over', 23), ('state', 12), ('state', 1048576)]

>>> from roundedsteps.bins import binned, exact_level
>>> from roundedsteps.orders import all_sums, best_tree, one_answer, shows_one_answer, tree_sum, worst_tree
>>> some = (6, 3, 1)
>>> [tree_sum(tiny, some, ((0, 1), 2), 'near'), tree_sum(tiny, some, ((1, 2), 0), 'near'), [row[0] for row in all_sums(tiny, some, 'near')[0]]]
[8, 10, [8, 10]]
>>> [one_answer(tiny, (4, 2, 1), 'near'), shows_one_answer(tiny, some, 'near', ('two', ((0, 1), 2), ((0, 2), 1)))]
[('one', 7), True]
>>> [best_tree(tiny, some, 'near')[0], worst_tree(tiny, some, 'near')[0]]
[0, 2]
>>> [exact_level(tiny, 3, 7)[0], binned(tiny, some, 7)]
[2, (4, 6)]

>>> from roundedsteps.bench import Bench
>>> bench = Bench(small)
>>> bench.claim(('within', 's', 1, 8))
>>> bench.see('t', 1, 2)
>>> [bench.how_many(), bench.holds(), bench.done]
[5, ('surely',), 2]
>>> bench.tried(lambda held: held.narrow('x', 0, 3) or held.how_many())
4
>>> bench.undo()
>>> [bench.holds(), bench.looks, bench.program == small]
[('broken',), (), True]

>>> from roundedsteps.desk import Desk
>>> from roundedsteps.journals import journal
>>> desk = Desk(small.text + '\nbench\nclaim within s 1 8')
>>> [desk.say(line) for line in ('many', 'see t 1 2', 'many', 'holds', 'spread s', 'run 6', 'put u = s + t keep 1', 'step u', 'undo')]
['8', 'ok', '5', 'surely', '1 8', '2', 'ok', 'u = s + t keep 1', 'ok']
>>> journal(desk.bench) == small.text + '\nbench\nclaim within s 1 8\nsee t 1 2'
True
"""


class Examples(unittest.TestCase):
    """Each example tells what the document tells of it."""

    def test_examples(self):
        told = []
        examples = doctest.DocTestParser().get_doctest(EXAMPLES, {}, 'examples', None, 0)
        found = doctest.DocTestRunner(verbose=False).run(examples, out=told.append)
        self.assertEqual((found.failed, ''.join(told)), (0, ''))
        self.assertEqual(found.attempted, 127)


if __name__ == '__main__':
    unittest.main()
