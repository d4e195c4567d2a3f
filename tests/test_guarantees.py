"""Section 3, (c) to (e), of what proves, compares, leads over and tells apart."""

import random
import unittest

from roundedsteps.alike import first_unlike, same_for_all, unlike_many
from roundedsteps.apart import fewest_inputs, kinds, plan
from roundedsteps.bench import Bench
from roundedsteps.blame import blamed, cure, shares, shows_cure
from roundedsteps.boxes import lows
from roundedsteps.deciding import first_open
from roundedsteps.ends import farthest, greatest, lowest, turned
from roundedsteps.errors import NoWorth
from roundedsteps.far import behind, ring, stuck
from roundedsteps.fewest import fewest, pins, reaches
from roundedsteps.figures import cheapest, choices_told, shows_upward, upward
from roundedsteps.filters import cheapest_stages, least_bound, safe, sign_counts, sign_told
from roundedsteps.folds import folded, least_closed, least_kept
from roundedsteps.journals import journal, read_journal
from roundedsteps.leastprogram import least_program, made, parting
from roundedsteps.looks import best_ask, cheapest_names, counted, knows
from roundedsteps.programs import Program
from roundedsteps.proving import parted, proved, proved_on, shows_proved
from roundedsteps.rules import kept, leads
from roundedsteps.runs import exact_run
from roundedsteps.seen import how_many, left_tree, spread, surely
from tests import slow
from tests.helping import Case, some_box, some_claims, some_program
from tests.test_alike import some_pair
from tests.test_bench import refusal, some_deed
from tests.test_blame import some_mixed
from tests.test_figures import mending
from tests.test_filters import some_signs, some_stages
from tests.test_folds import Slow as Fold
from tests.test_folds import some_fold, some_starts
from tests.test_runs import turned_about, without_products
from tests.test_seen import some_looks

# These ascend as the elder names do.
NEW_NAMES = {'a': 'aim', 'b': 'bar', 'c': 'cut', **{f's{number}': f'sum{number}' for number in range(20)},
             'p': 'pa', 'r': 'ra', 's': 'sa', 't': 'ta', 'u': 'ua'}


def renamed(value):
    """The value with the new names for the elder ones."""
    if isinstance(value, tuple):
        return tuple(renamed(part) for part in value)
    if isinstance(value, Program):
        lines = [' '.join([NEW_NAMES.get(word, word) for word in line.split(' ')]) for line in value.text.split('\n')]
        return Program('\n'.join(lines))
    return NEW_NAMES.get(value, value) if isinstance(value, str) else value


class CalledOtherwise(Case):
    """(e): new names that ascend as the elder ones change nothing else."""

    def alike(self, call, *told):
        self.assertEqual(renamed(call(*told)), call(*renamed(told)))

    def test_one_program(self):
        chance = random.Random(151)
        for _ in range(80):
            program = some_program(chance, most_steps=5, most_numbers=4)
            claims = tuple(some_claims(chance, program))
            box, looks = some_box(chance, program), some_looks(chance, program)
            self.alike(first_open, program, claims, box)
            for claim in claims[:4]:
                self.alike(proved, program, claim)
                self.alike(proved_on, program, claim, box)
                self.alike(parted, program, claim)
                self.alike(surely, program, looks, claim)
                if len(program.inputs) == 1:
                    self.alike(fewest, program, claim)
                    self.alike(reaches, program, claim, box[0][0])
                    if proved(program, claim)[0] == 'cut':
                        self.alike(pins, program, claim)
            name, other = chance.choice(program.names), chance.choice(program.names)
            for call in (greatest, lowest, farthest):
                self.alike(call, program, name)
            self.alike(turned, program, name, other)
            self.alike(left_tree, program, looks)
            self.alike(how_many, program, looks)
            self.alike(spread, program, looks, name)
            self.alike(counted, program, looks, name)
            names = tuple(sorted({name, other}))
            self.alike(best_ask, program, looks, names)
            self.alike(knows, program, looks, names, chance.choice(program.names))
            self.alike(cheapest_names, program, looks, tuple((part, 2) for part in names), chance.choice(program.names))
            self.alike(leads, program)

    def test_figures_blame_and_filters(self):
        chance = random.Random(156)
        for _ in range(60):
            program, claim, prices = mending(chance)
            for call in (cheapest, choices_told, upward):
                self.alike(call, program, claim, prices)
            program, claim = some_mixed(chance, most_numbers=3)
            box = some_box(chance, program)
            self.alike(cure, program, claim, box)
            for row in (lows(box), tuple(pair[1] for pair in box)):
                self.alike(blamed, program, claim, row)
                if exact_run(program, row)[0] == 'tells' and program.told[0] in program:
                    try:
                        shares(program, row)
                    except NoWorth:
                        continue
                    self.alike(shares, program, row)
            program = some_signs(chance, most_numbers=3)
            stages = some_stages(chance, program)
            box = some_box(chance, program)
            self.alike(least_bound, program, stages[0][0])
            self.alike(safe, program, stages)
            self.alike(sign_counts, program, stages, box)
            prices = tuple((step[0], 3) for step in program.steps if step[1] in '+-*/')[:1]
            if prices:
                self.alike(cheapest_stages, program, prices, 50, box)

    def test_folds_and_benches(self):
        chance = random.Random(157)
        for _ in range(150):
            told = Fold(some_fold(chance))
            starts, part = some_starts(chance, told), chance.choice(told.parts)
            self.alike(least_closed, told.program, starts)
            self.alike(least_kept, told.program, starts)
            self.alike(folded, told.program, starts[0], (part,) * 3)
            self.alike(stuck, told.program, part)
            self.alike(ring, told.program, starts[0], part)
            self.alike(behind, told.program, starts[0], part, 10 ** 9)
            bench = Bench(some_program(chance, most_steps=4, most_numbers=3))
            for _ in range(6):
                deed = some_deed(chance, bench.program, bench.claims)
                if refusal(bench.program, bench.looks, bench.claims, deed) is None:
                    getattr(bench, deed[0])(*deed[1:])
            lines = [' '.join([NEW_NAMES.get(word, word) for word in line.split(' ')]) for line in journal(bench).split('\n')]
            other = read_journal('\n'.join(lines))
            self.same([other.looks, other.claims, other.holds(), other.how_many(), other.done],
                      [renamed(bench.looks), renamed(bench.claims), bench.holds(), bench.how_many(), bench.done])

    def test_two_programs(self):
        chance = random.Random(152)
        for _ in range(80):
            one, other = some_pair(chance)
            for call in (same_for_all, unlike_many, first_unlike, parting):
                self.alike(call, one, other)
            for call in (kinds, fewest_inputs, plan):
                self.alike(call, (one, other, one))
            for rule, name in leads(one)[:2]:
                self.alike(kept, one, rule, name)


class TurnedAbout(Case):
    """(d): what is turned about at 0 tells the same, turned about."""

    def test_what_is_left(self):
        chance = random.Random(153)
        for program in without_products(chance, 60):
            other = turned_about(program)
            looks = some_looks(chance, program)
            also = tuple((name, -high, -low) for name, low, high in looks)
            self.assertEqual(how_many(program, looks), how_many(other, also))
            for name in program.names:
                found = counted(program, looks, name)
                self.assertEqual(counted(other, also, name), tuple((-worth, many) for worth, many in reversed(found)))
                told, turn = spread(program, looks, name), spread(other, also, name)
                self.assertEqual(told[0], turn[0])
                if told[0] == 'worths':
                    self.assertEqual((told[1], told[3]), (-turn[3], -turn[1]))
                names = tuple(sorted(chance.sample(program.names, min(2, len(program.names)))))
                self.assertEqual(knows(program, looks, names, name)[0], knows(other, also, names, name)[0])
                prices = tuple((part, 3) for part in names)
                told, turn = cheapest_names(program, looks, prices, name), cheapest_names(other, also, prices, name)
                self.assertEqual((told[0], len(told[-1])), (turn[0], len(turn[-1])))

    def test_programs_apart(self):
        chance = random.Random(154)
        for program in without_products(chance, 60):
            ways = [Program(program.text.replace(' way down', way)) for way in ('', ' way down', ' way up')]
            also = tuple(turned_about(one) for one in ways)
            self.assertEqual(kinds(tuple(ways)), kinds(also))
            self.assertEqual(fewest_inputs(tuple(ways))[0], fewest_inputs(also)[0])
            self.assertEqual(plan(tuple(ways))[0], plan(also)[0])
            if len(program.told) == 1:
                making = (('+', '-'), (), 1)
                self.assertEqual(made(program, making), made(also[1], making))
                found = [least_program(one, making) for one in (program, turned_about(program))]
                self.assertEqual(found[0] is None, found[1] is None)


    def test_figures_blame_and_signs(self):
        chance = random.Random(158)
        for program in without_products(chance, 50):
            other = turned_about(program)
            name, also = chance.choice(program.names), chance.choice(program.names)
            names = [step[0] for step in program.steps if step[1] in '+-'][:5]
            row = slow.inputs_of(program)[0]
            turn = tuple(-number for number in row)
            for claim, back in ((('off', name, 1), ('off', name, 1)), (('atmost', name, also), ('atmost', also, name)),
                                (('within', name, -3, 8), ('within', name, -8, 3)), (('sure', name, 1), ('sure', name, 1))):
                if len(names) == len([step for step in program.steps if step[1] in '+-']):
                    self.same(blamed(program, claim, row), blamed(other, back, turn))
                if names:
                    prices = tuple((part, 2) for part in names[:1])
                    self.same(cheapest(program, claim, prices)[:-2], cheapest(other, back, prices)[:-2])
                    self.same(upward(program, claim, prices)[0], upward(other, back, prices)[0])
            self.same(least_bound(program, ())[0], least_bound(other, ())[0])
            stage = (((), 1),)
            told, found = sign_told(program, stage, row), sign_told(other, stage, turn)
            self.same(found, told and (0, -told[1]))
            box = tuple((low, high) for _, low, high in program.inputs)
            self.same(sign_counts(program, stage, box), sign_counts(other, stage, tuple((-high, -low) for low, high in box)))

    def test_folds(self):
        chance = random.Random(159)
        many = 0
        for _ in range(300):
            program = some_fold(chance)
            if '*' in program.text or '/' in program.text:
                continue
            other, told = turned_about(program), Fold(program)
            starts, part = some_starts(chance, told), chance.choice(told.parts)
            one, turn = least_closed(program, starts), least_closed(other, (-starts[1], -starts[0]))
            self.same(one[0], turn[0])
            if one[0] == 'closed':
                self.same(turn[1], tuple((-high, -low) for low, high in one[1][::-1]))
            else:
                self.same(len(one[2]), len(turn[2]))
            one, turn = least_kept(program, starts), least_kept(other, (-starts[1], -starts[0]))
            self.same(turn[0], one[0])
            if one[0] == 'kept':
                self.same(turn, ('kept', -one[2], -one[1]))
            self.same(stuck(other, -part), tuple((-high, -low) for low, high in stuck(program, part)[::-1]))
            if ring(program, starts[0], part)[0] == 'ring':
                self.same(ring(other, -starts[0], -part), ring(program, starts[0], part))
            many += 1
        self.assertGreater(many, 100)


class Evidence(Case):
    """(c): of two that exclude each other just one can be shown."""

    def test_either_or(self):
        chance = random.Random(160)
        for _ in range(80):
            program, claim, prices = mending(chance)
            box = tuple((low, high) for _, low, high in program.inputs)
            row = chance.choice(slow.inputs_of(program))
            trees = [('box',), proved(program, ('sound',))[1]]
            for (choice, told) in choices_told(program, claim, prices):
                both = [shows_proved(program.with_more(choice), claim, value)
                        for value in (('broken', row), told) + tuple(('cut', tree) for tree in trees)]
                if told[0] == 'cut':
                    self.same(both[:2], [False, True])
                else:
                    self.same(both[1:], [True, False, False])
            if upward(program, claim, prices)[0] == 'falls':
                self.same(shows_upward(program, claim, prices, ('upward',)), False)
            if claim[0] not in ('nearest', 'plain'):
                told = cure(program, claim, box)
                lots = [lot for lot in (('s',), ('t',), ('u',), ('s', 't'), ()) if ('lot', lot) != told[:2]]
                self.same([shows_cure(program, claim, box, ('lot', lot, told[-1])) for lot in lots], [False] * len(lots))


class EqualCalls(Case):
    """Equal calls return equal results, also with equal objects."""

    def test_equal_programs(self):
        chance = random.Random(155)
        for _ in range(40):
            program = some_program(chance, most_steps=5, most_numbers=4)
            again = Program(program.text)
            looks = some_looks(chance, program)
            for claim in some_claims(chance, program)[:4]:
                for call in (proved, parted):
                    self.same(call(program, claim), call(again, claim))
                self.same(surely(program, looks, claim), surely(again, looks, claim))
            for name in program.names:
                for call in (greatest, lowest, farthest):
                    self.same(call(program, name), call(again, name))
                self.same(best_ask(program, looks, (name,)), best_ask(again, looks, (name,)))


if __name__ == '__main__':
    unittest.main()
