"""The examples of sections 4 to 12, as they stand in the document."""

import doctest
import unittest

EXAMPLES = r"""
>>> from roundedsteps.grids import Grid
>>> grid = Grid(10, 2, 2, 1)
>>> [grid.greatest, 99 in grid, 101 in grid, 990 in grid, 995 in grid, grid.spacing(0), grid.spacing(120)]
[9900, True, False, True, False, 1, 10]
>>> [grid.rank(100), grid.rank(-99), grid.rank(9900), grid.after(99), grid.after(100), grid.before(100), grid.after(9900), grid.many(90, 120)]
[100, -99, 279, 100, 110, 99, None, 13]
>>> [Grid(2, 2, 2, 0).number(rank) for rank in range(8)]
[0, 1, 2, 3, 4, 6, 8, 12]

>>> from roundedsteps.rounding import around, is_tie, rest, rounded, split_sum
>>> [[rounded(grid, top, 2, way, 0) for way in ('near', 'down', 'up', 'zero')] for top in (-1999, 199, 201)]
[[-1000, -1000, -990, -990], [100, 99, 100, 99], [100, 100, 110, 100]]
>>> [rounded(grid, 105, 1, 'near', 0), rounded(grid, 115, 1, 'near', 0), rounded(grid, 9950, 1, 'near', 0), rounded(grid, 9949, 1, 'near', 1), rest(grid, 1, 3, 'up', 0), rest(grid, 9950, 1, 'zero', 0)]
[100, 120, None, 9950, (-2, 3), (50, 1)]
>>> [is_tie(grid, 9950, 1, 0), is_tie(grid, 100, 1, 0), around(grid, -1999, 2, 0), split_sum(grid, 990, 45), split_sum(grid, 9900, 60)]
[True, False, (-1000, -990), (1000, 35), None]

>>> from roundedsteps.parts import cross_signs, plain_sum, product_row, renewed, row_worth, shows_shortest
>>> [row_worth(grid, (990, 45, -7)), plain_sum(grid, (990, 45, -7)), renewed(grid, 1028), renewed(grid, -9899), renewed(grid, 9450)]
[1028, (990, (35, 3)), (1000, 28), (-9900, 1), (9400, 50)]
>>> [shows_shortest(grid, 1028, (930, 98)), shows_shortest(grid, 1028, (990, 45, -7)), renewed(Grid(2, 1, 5, 0), 27)]
[True, False, (32, -4, -1)]
>>> four = Grid(10, 2, 4, 0)
>>> [product_row(four, 97, 97), product_row(four, 99, 95), cross_signs(four, (97, 95, 99, 97))]
[(9400, 9), (9400, 5), (1, 0)]

>>> from roundedsteps.programs import joined, Program
>>> there = Program('grid 2 3 2 0\ninput a 0 7\ninput b 0 7\ns = a + b\nt = s - b\ntell t')
>>> [there.inputs, there.steps[1], there.told, len(there), 's' in there, 'c' in there]
[(('a', 0, 7), ('b', 0, 7)), ('t', '-', ('s', 'b'), 0, 'near'), ('t',), 2, True, False]
>>> there.with_more((('s', 1),)).text.split('\n')[3]
's = a + b keep 1'
>>> joined(there, Program('grid 2 3 2 0\ninput a 0 7\ninput b 0 7\ntell a')).text.split('\n')[3:]
['p1 = a + b', 'p2 = p1 - b', 'tell p2 a']

>>> from roundedsteps.runs import exact_run, mixed_run, off_by, run, worths
>>> [run(there, (1, 7)), run(there, (2, 7)), worths(there, (2, 7)), exact_run(there, (2, 7))]
[('tells', (1,)), ('tells', (1,)), (('a', 2), ('b', 7), ('s', 8), ('t', 1)), ('tells', ((2, 1),))]
>>> [mixed_run(there, (2, 7), ('s',)), mixed_run(there, (2, 7), ()), off_by(there, (2, 7))]
[('tells', ((2, 1),)), ('tells', ((1, 1),)), ((-1, 1),)]

>>> from roundedsteps.boxes import cut_at, halved, inputs_at, points, whole_box
>>> from roundedsteps.programs import Program
>>> back = Program('grid 10 2 2 0\ninput a 90 120\ninput b 5 9\ns = a + b\nt = s - b\ntell t')
>>> [whole_box(back), points(back, whole_box(back)), inputs_at(back, whole_box(back), 52)]
[((90, 120), (5, 9)), 65, (100, 7)]
>>> [halved(back, whole_box(back)), cut_at(back, ((95, 95), (5, 9)), 'b', 5), halved(back, ((95, 95), (7, 7)))]
[(((90, 96), (5, 9)), ((97, 120), (5, 9))), (((95, 95), (5, 5)), ((95, 95), (6, 9))), None]

>>> from roundedsteps.ranges import exact_ranges, ranges
>>> ranges(back, ((95, 99), (5, 5)))
(('a', (95, 99)), ('b', (5, 5)), ('s', (100, 100)), ('t', (95, 95)))
>>> [ranges(back, whole_box(back))[2:], exact_ranges(back, ((95, 99), (5, 6)))[2:]]
[(('s', (95, 130)), ('t', (86, 120))), (('s', ((100, 1), (105, 1))), ('t', ((94, 1), (100, 1))))]

>>> from roundedsteps.boxes import whole_box
>>> from roundedsteps.lines import alike, line_ends, lines
>>> from roundedsteps.programs import Program
>>> two = Program('grid 2 3 4 0\ninput a 8 14\ninput b 8 14\ns = a + b\nd = a - b\nm = most a d\nt = b + m\ntell s t')
>>> lines(two, whole_box(two))
(('a', (0, 1, 0)), ('b', (0, 0, 1)), ('s', None), ('d', (0, 1, -1)), ('m', (0, 1, 0)), ('t', None))
>>> [line_ends((0, 1, -1), whole_box(two)), alike(two, whole_box(two))]
[(-6, 6), (('a', 'm'), ('b',), ('s', 't'), ('d',))]

>>> from roundedsteps.claims import broken_by, is_so, so_often
>>> from roundedsteps.programs import Program
>>> pair = Program('grid 2 2 3 0\ninput a 0 6\ninput b 1 4\ns = a + b\nt = s - b\ntell t')
>>> wish = ('same', 't', 'a')
>>> [is_so(pair, wish, (3, 2)), is_so(pair, wish, (1, 2)), is_so(pair, ('off', 't', 1), (3, 2)), is_so(pair, ('nearest', 's'), (3, 2))]
[False, True, True, True]
>>> [broken_by(pair, (('sound',), wish, ('plain', 's'), ('within', 't', 0, 2)), (3, 2)), so_often(pair, wish)]
[(1, 2), 16]
"""


class Examples(unittest.TestCase):
    """Each example tells what the document tells of it."""

    def test_examples(self):
        told = []
        examples = doctest.DocTestParser().get_doctest(EXAMPLES, {}, 'examples', None, 0)
        found = doctest.DocTestRunner(verbose=False).run(examples, out=told.append)
        self.assertEqual((found.failed, ''.join(told)), (0, ''))
        self.assertGreater(found.attempted, 40)


if __name__ == '__main__':
    unittest.main()
