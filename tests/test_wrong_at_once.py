"""Section 2: of several wrong arguments the first one's error is raised, with its very value, by position and by name."""

import unittest
from functools import partial
from itertools import product

from roundedsteps import (alike, apart, bins, blame, boxes, claims, deciding, ends, errors, far, fewest, figures, filters, folds, grids,
                          leastprogram, lines, looks, orders, parts, programs, proving, ranges, rounding, rules, runs, seen)
from roundedsteps.bench import Bench
from roundedsteps.programs import Program
from tests.helping import Case, deep
from tests.test_form import INTERFACE

GRID = grids.Grid(2, 3, 4, 0)
PROGRAM = Program('grid 2 3 4 0\ninput a 1 7\ninput b 1 7\ns = a + b\nt = s - a\nm = choose a t a t\ntell t')
LINE = Program('grid 2 3 4 0\ninput a 1 7\ns = a + 1\ntell s')
FOLD = Program('grid 2 3 4 0\ninput s 0 112\ninput p 1 3\nr = s + p\ntell r')
BOX = ((1, 7), (2, 5))
WISH = ('same', 't', 'b')
TREE = ('box',)
WRONG = [None, True, False, [], {}, 'zz', ('zz',), (None,), Bench(PROGRAM), deep(20)]
# Of each function: the modules' names, what stands ahead, and (parameter, right value, error), in the sequence of the errors.
CLAIM, PLACE, BOXED, INPUTS = ('claim', WISH, 'BadClaim'), ('name', 'a', 'NoName'), ('box', BOX, 'BadBox'), ('inputs', (1, 2), 'BadInputs')
PRICED, LOOKS, WAY = ('prices', (('s', 1),), 'BadPrices'), ('looks', (), 'BadLooks'), ('way', 'near', 'BadWay')
START, PART, NUMBERS = ('start', 6, 'BadStart'), ('part', 3, 'BadPart'), ('numbers', (6, 3, 1), 'BadNumbers')
CALLS = [
    (rounding.rounded, GRID, [WAY, ('more', 0, 'BadMore')], {'top': 1, 'bottom': 2}),
    (rounding.rest, GRID, [WAY, ('more', 0, 'BadMore')], {'top': 1, 'bottom': 2}),
    (rounding.is_tie, GRID, [('more', 0, 'BadMore')], {'top': 1, 'bottom': 2}),
    (rounding.around, GRID, [('more', 0, 'BadMore')], {'top': 1, 'bottom': 2}),
    (rounding.split_sum, GRID, [('one', 1, 'NoNumber'), ('other', 2, 'NoNumber')], {}),
    (parts.row_worth, GRID, [('row', (1,), 'BadRow')], {}),
    (parts.plain_sum, GRID, [('row', (1,), 'BadRow')], {}),
    (parts.renewed, GRID, [('worth', 9, 'BadWorth')], {}),
    (parts.renewed_row, GRID, [('row', (1,), 'BadRow')], {}),
    (parts.shows_shortest, GRID, [('worth', 9, 'BadWorth')], {'value': (8, 1)}),
    (parts.product_row, GRID, [('one', 1, 'NoNumber'), ('other', 2, 'NoNumber')], {}),
    (parts.cross_signs, GRID, [('four', (1, 2, 3, 4), 'BadFour')], {}),
    (runs.run, PROGRAM, [INPUTS], {}),
    (runs.worths, PROGRAM, [INPUTS], {}),
    (runs.exact_run, PROGRAM, [INPUTS], {}),
    (runs.exact_worths, PROGRAM, [INPUTS], {}),
    (runs.mixed_run, PROGRAM, [INPUTS, ('lot', ('s',), 'BadLot')], {}),
    (runs.mixed_worths, PROGRAM, [INPUTS, ('lot', ('s',), 'BadLot')], {}),
    (runs.off_by, PROGRAM, [INPUTS], {}),
    (boxes.points, PROGRAM, [BOXED], {}),
    (boxes.inputs_at, PROGRAM, [BOXED, ('number', 0, 'BadNumber')], {}),
    (boxes.cut_at, PROGRAM, [BOXED, ('name', 'a', 'BadName'), ('at', 3, 'BadCut')], {}),
    (boxes.halved, PROGRAM, [BOXED], {}),
    (ranges.ranges, PROGRAM, [BOXED], {}),
    (ranges.exact_ranges, PROGRAM, [BOXED], {}),
    (lines.lines, PROGRAM, [BOXED], {}),
    (lines.exact_lines, PROGRAM, [BOXED], {}),
    (lines.plain_steps, PROGRAM, [BOXED], {}),
    (lines.alike, PROGRAM, [BOXED], {}),
    (claims.is_so, PROGRAM, [CLAIM, INPUTS], {}),
    (claims.broken_by, PROGRAM, [('claims', (WISH,), 'BadClaim'), INPUTS], {}),
    (claims.so_often, PROGRAM, [CLAIM], {}),
    (deciding.decided, PROGRAM, [CLAIM, BOXED], {}),
    (deciding.first_open, PROGRAM, [('claims', (WISH,), 'BadClaim'), BOXED], {}),
    (proving.leaves, PROGRAM, [('tree', TREE, 'BadTree')], {}),
    (proving.proved, PROGRAM, [CLAIM], {}),
    (proving.shows_proved, PROGRAM, [CLAIM], {'value': ('cut', TREE)}),
    (proving.proved_on, PROGRAM, [CLAIM, BOXED], {}),
    (proving.shows_proved_on, PROGRAM, [CLAIM, BOXED], {'value': None}),
    (proving.parted, PROGRAM, [CLAIM], {}),
    (proving.shows_parted, PROGRAM, [CLAIM], {'value': None}),
    (proving.so_many, PROGRAM, [('tree', ('so',), 'BadTree')], {}),
    (fewest.fewest, LINE, [('claim', ('same', 's', 'a'), 'BadClaim')], {}),
    (fewest.shows_fewest, LINE, [('claim', ('same', 's', 'a'), 'BadClaim')], {'value': None}),
    (fewest.pins, LINE, [('claim', ('plain', 'a'), 'BadClaim')], {}),
    (fewest.shows_pins, LINE, [('claim', ('plain', 'a'), 'BadClaim')], {'value': None}),
    (ends.greatest, PROGRAM, [PLACE], {}),
    (ends.shows_greatest, PROGRAM, [PLACE], {'value': None}),
    (ends.lowest, PROGRAM, [PLACE], {}),
    (ends.shows_lowest, PROGRAM, [PLACE], {'value': None}),
    (ends.farthest, PROGRAM, [PLACE], {}),
    (ends.shows_farthest, PROGRAM, [PLACE], {'value': None}),
    (ends.turned, PROGRAM, [('one', 'a', 'NoName'), ('other', 't', 'NoName')], {}),
    (ends.shows_turned, PROGRAM, [('one', 'a', 'NoName'), ('other', 't', 'NoName')], {'value': None}),
    (rules.led, PROGRAM, [('rule', 'turn', 'BadRule'), ('name', 's', 'NoStep')], {}),
    (rules.kept, PROGRAM, [('rule', 'turn', 'BadRule'), ('name', 's', 'NoStep')], {}),
    (rules.shows_kept, PROGRAM, [('rule', 'turn', 'BadRule'), ('name', 's', 'NoStep')], {'value': None}),
    (leastprogram.made, PROGRAM, [('making', ((), (), 0), 'BadMaking')], {}),
    (leastprogram.least_program, PROGRAM, [('making', ((), (), 0), 'BadMaking')], {}),
    (seen.is_left, PROGRAM, [LOOKS, INPUTS], {}),
    (seen.left_tree, PROGRAM, [LOOKS], {}),
    (seen.shows_left_tree, PROGRAM, [LOOKS], {'value': None}),
    (seen.left_boxes, PROGRAM, [('tree', ('in',), 'BadTree')], {}),
    (seen.how_many, PROGRAM, [LOOKS], {}),
    (seen.surely, PROGRAM, [LOOKS, CLAIM], {}),
    (seen.shows_surely, PROGRAM, [LOOKS, CLAIM], {'value': None}),
    (seen.spread, PROGRAM, [LOOKS, PLACE], {}),
    (seen.shows_spread, PROGRAM, [LOOKS, PLACE], {'value': None}),
    (looks.counted, PROGRAM, [LOOKS, PLACE], {}),
    (looks.best_ask, PROGRAM, [LOOKS, ('names', ('a',), 'BadNames')], {}),
    (looks.shows_best_ask, PROGRAM, [LOOKS, ('names', ('a',), 'BadNames')], {'value': None}),
    (looks.knows, PROGRAM, [LOOKS, ('names', ('a',), 'BadNames'), ('goal', 't', 'NoName')], {}),
    (looks.shows_knows, PROGRAM, [LOOKS, ('names', ('a',), 'BadNames'), ('goal', 't', 'NoName')], {'value': None}),
    (looks.cheapest_names, PROGRAM, [LOOKS, ('prices', (('a', 1),), 'BadPrices'), ('goal', 't', 'NoName')], {}),
    (looks.shows_cheapest_names, PROGRAM, [LOOKS, ('prices', (('a', 1),), 'BadPrices'), ('goal', 't', 'NoName')], {'value': None}),
    (apart.kinds, None, [('programs', (PROGRAM, PROGRAM), 'BadPrograms')], {}),
    (apart.fewest_inputs, None, [('programs', (PROGRAM, PROGRAM), 'BadPrograms')], {}),
    (apart.shows_fewest_inputs, None, [('programs', (PROGRAM, PROGRAM), 'BadPrograms')], {'value': None}),
    (apart.fitting, None, [('programs', (PROGRAM, PROGRAM), 'BadPrograms'), ('seen', (), 'BadSeen')], {}),
    (apart.plan, None, [('programs', (PROGRAM, PROGRAM), 'BadPrograms')], {}),
    (apart.shows_plan, None, [('programs', (PROGRAM, PROGRAM), 'BadPrograms')], {'value': None}),
    (figures.cheapest, PROGRAM, [CLAIM, PRICED], {}),
    (figures.shows_cheapest, PROGRAM, [CLAIM, PRICED], {'value': None}),
    (figures.choices_told, PROGRAM, [CLAIM, PRICED], {}),
    (figures.shows_choices_told, PROGRAM, [CLAIM, PRICED], {'value': None}),
    (figures.upward, PROGRAM, [CLAIM, PRICED], {}),
    (figures.shows_upward, PROGRAM, [CLAIM, PRICED], {'value': None}),
    (blame.holds_mixed, PROGRAM, [CLAIM, ('lot', ('s',), 'BadLot'), INPUTS], {}),
    (blame.blamed, PROGRAM, [CLAIM, INPUTS], {}),
    (blame.cure, PROGRAM, [CLAIM, BOXED], {}),
    (blame.shows_cure, PROGRAM, [CLAIM, BOXED], {'value': None}),
    (blame.shares, PROGRAM, [INPUTS], {}),
    (filters.least_bound, PROGRAM, [('choice', (('s', 1),), 'BadChoices')], {}),
    (filters.shows_least_bound, PROGRAM, [('choice', (('s', 1),), 'BadChoices')], {'value': None}),
    (filters.sign_told, PROGRAM, [('stages', (((), 0),), 'BadStages'), INPUTS], {}),
    (filters.sign_counts, PROGRAM, [('stages', (((), 0),), 'BadStages'), BOXED], {}),
    (filters.safe, PROGRAM, [('stages', (((), 0),), 'BadStages')], {}),
    (filters.shows_safe, PROGRAM, [('stages', (((), 0),), 'BadStages')], {'value': None}),
    (filters.cheapest_stages, PROGRAM, [PRICED, ('last', 5, 'BadNumber'), BOXED], {}),
    (filters.shows_cheapest_stages, PROGRAM, [PRICED, ('last', 5, 'BadNumber'), BOXED], {'value': None}),
    (folds.folded, FOLD, [START, ('parts', (3, 1), 'BadParts')], {}),
    (folds.least_closed, FOLD, [('starts', (0, 1), 'BadStarts')], {}),
    (folds.shows_least_closed, FOLD, [('starts', (0, 1), 'BadStarts')], {'value': None}),
    (folds.least_kept, FOLD, [('starts', (0, 1), 'BadStarts')], {}),
    (folds.shows_least_kept, FOLD, [('starts', (0, 1), 'BadStarts')], {'value': None}),
    (far.stuck, FOLD, [PART], {}),
    (far.ring, FOLD, [START, PART], {}),
    (far.behind, FOLD, [START, PART, ('laps', 9, 'BadLaps')], {}),
    (far.drift, GRID, [('start', 1, 'BadNumber'), ('part', 1, 'BadNumber'), WAY, ('laps', 9, 'BadLaps')], {}),
    (far.stall, GRID, [('start', 1, 'BadNumber'), ('part', 1, 'BadNumber'), WAY], {}),
    (orders.tree_sum, GRID, [NUMBERS, ('tree', ((0, 1), 2), 'BadTree'), WAY], {}),
    (orders.all_sums, GRID, [NUMBERS, WAY], {}),
    (orders.one_answer, GRID, [NUMBERS, WAY], {}),
    (orders.shows_one_answer, GRID, [NUMBERS, WAY], {'value': None}),
    (orders.best_tree, GRID, [NUMBERS, WAY], {}),
    (orders.shows_best_tree, GRID, [NUMBERS, WAY], {'value': None}),
    (orders.worst_tree, GRID, [NUMBERS, WAY], {}),
    (orders.shows_worst_tree, GRID, [NUMBERS, WAY], {'value': None}),
    (bins.exact_level, GRID, [('many', 3, 'BadMany'), ('greatest', 7, 'BadNumber')], {}),
    (bins.shows_exact_level, GRID, [('many', 3, 'BadMany'), ('greatest', 7, 'BadNumber')], {'value': None}),
    (bins.binned, GRID, [('numbers', (6, 3), 'BadRow'), ('greatest', 7, 'BadNumber')], {}),
]
# What takes Programs or grids alone, or has errors of another sort; their own tests look at these.
OTHERS = """joined whole_box line_ends reaches same_for_all shows_same_for_all unlike_many shows_unlike_many first_unlike rule_names pruned
led_by leads all_inputs parting never_better journal read_journal Grid Program Bench Desk""".split()


class WrongAtOnce(Case):
    """Each function with each choice of its arguments wrong."""

    def test_all_are_listed(self):
        listed = sorted(name for rows in INTERFACE.values() for name in rows if name not in OTHERS)
        self.assertEqual(sorted(call.__name__ for call, _, _, _ in CALLS), listed)

    def test_the_first_error(self):
        for call, first, rows, others in CALLS:
            names = INTERFACE[call.__module__.split('.')[1]][call.__name__].split()
            ahead = {} if first is None else {names[0]: first}
            for choice in product((False, True), repeat=len(rows)):
                for at, value in enumerate(WRONG):
                    told = {**ahead, **others}
                    for number, (is_wrong, (name, right, _)) in enumerate(zip(choice, rows)):
                        told[name] = WRONG[(at + number) % len(WRONG)] if is_wrong else right
                    # Any value is a right one for what shows_ functions are asked about.
                    told.update({'value': value} if 'value' in others else {})
                    self.assertEqual(set(told), set(names))
                    if True not in choice:
                        call(*[told[name] for name in names])
                        call(**told)
                        continue
                    name, _, error = rows[choice.index(True)]
                    # Of claims it is the first part that is none.
                    wrong = told[name][0] if name == 'claims' and isinstance(told[name], tuple) else told[name]
                    self.refused(getattr(errors, error), wrong, call, *[told[part] for part in names])
                    self.refused(getattr(errors, error), wrong, partial(call, **told))

    def test_fractions_ahead_of_ways_and_figures(self):
        for call, told in ((rounding.rounded, ('none', None)), (rounding.rest, ('none', None)), (rounding.is_tie, (None,)), (rounding.around, (None,))):
            for top, bottom in ((None, 1), (1, 0), (1, -1), (1, True), ('1', 1), ([], {})):
                self.refused_with(errors.BadFraction, (top, bottom), call, GRID, top, bottom, *told)


if __name__ == '__main__':
    unittest.main()
