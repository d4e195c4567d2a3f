"""Section 3, (c) to (e), of what proves, compares, leads over and tells apart."""

import random
import unittest

from roundedsteps.alike import first_unlike, same_for_all, unlike_many
from roundedsteps.apart import fewest_inputs, kinds, plan
from roundedsteps.deciding import first_open
from roundedsteps.ends import farthest, greatest, lowest, turned
from roundedsteps.fewest import fewest, pins, reaches
from roundedsteps.leastprogram import least_program, made, parting
from roundedsteps.looks import best_ask, cheapest_names, counted, knows
from roundedsteps.programs import Program
from roundedsteps.proving import parted, proved, proved_on
from roundedsteps.rules import kept, leads
from roundedsteps.seen import how_many, left_tree, spread, surely
from tests.helping import Case, some_box, some_claims, some_program
from tests.test_alike import some_pair
from tests.test_runs import turned_about, without_products
from tests.test_seen import some_looks

# These ascend as the elder names do.
NEW_NAMES = {'a': 'aim', 'b': 'bar', 'c': 'cut', **{f's{number}': f'sum{number}' for number in range(20)}}


def renamed(value):
    """The value with the new names for the elder ones."""
    if isinstance(value, tuple):
        return tuple(renamed(part) for part in value)
    if isinstance(value, Program):
        lines = [' '.join([NEW_NAMES.get(word, word) for word in line.split(' ')]) for line in value.text.split('\n')]
        return Program('\n'.join(lines))
    return NEW_NAMES.get(value, value) if isinstance(value, str) else value


class CalledOtherwise(Case):
    """(e): new names that ascend as the elder ones change nothing else."""

    def alike(self, call, *told):
        self.assertEqual(renamed(call(*told)), call(*renamed(told)))

    def test_one_program(self):
        chance = random.Random(151)
        for _ in range(80):
            program = some_program(chance, most_steps=5, most_numbers=4)
            claims = tuple(some_claims(chance, program))
            box, looks = some_box(chance, program), some_looks(chance, program)
            self.alike(first_open, program, claims, box)
            for claim in claims[:4]:
                self.alike(proved, program, claim)
                self.alike(proved_on, program, claim, box)
                self.alike(parted, program, claim)
                self.alike(surely, program, looks, claim)
                if len(program.inputs) == 1:
                    self.alike(fewest, program, claim)
                    self.alike(reaches, program, claim, box[0][0])
                    if proved(program, claim)[0] == 'cut':
                        self.alike(pins, program, claim)
            name, other = chance.choice(program.names), chance.choice(program.names)
            for call in (greatest, lowest, farthest):
                self.alike(call, program, name)
            self.alike(turned, program, name, other)
            self.alike(left_tree, program, looks)
            self.alike(how_many, program, looks)
            self.alike(spread, program, looks, name)
            self.alike(counted, program, looks, name)
            names = tuple(sorted({name, other}))
            self.alike(best_ask, program, looks, names)
            self.alike(knows, program, looks, names, chance.choice(program.names))
            self.alike(cheapest_names, program, looks, tuple((part, 2) for part in names), chance.choice(program.names))
            self.alike(leads, program)

    def test_two_programs(self):
        chance = random.Random(152)
        for _ in range(80):
            one, other = some_pair(chance)
            for call in (same_for_all, unlike_many, first_unlike, parting):
                self.alike(call, one, other)
            for call in (kinds, fewest_inputs, plan):
                self.alike(call, (one, other, one))
            for rule, name in leads(one)[:2]:
                self.alike(kept, one, rule, name)


class TurnedAbout(Case):
    """(d): what is turned about at 0 tells the same, turned about."""

    def test_what_is_left(self):
        chance = random.Random(153)
        for program in without_products(chance, 60):
            other = turned_about(program)
            looks = some_looks(chance, program)
            also = tuple((name, -high, -low) for name, low, high in looks)
            self.assertEqual(how_many(program, looks), how_many(other, also))
            for name in program.names:
                found = counted(program, looks, name)
                self.assertEqual(counted(other, also, name), tuple((-worth, many) for worth, many in reversed(found)))
                told, turn = spread(program, looks, name), spread(other, also, name)
                self.assertEqual(told[0], turn[0])
                if told[0] == 'worths':
                    self.assertEqual((told[1], told[3]), (-turn[3], -turn[1]))
                names = tuple(sorted(chance.sample(program.names, min(2, len(program.names)))))
                self.assertEqual(knows(program, looks, names, name)[0], knows(other, also, names, name)[0])
                prices = tuple((part, 3) for part in names)
                told, turn = cheapest_names(program, looks, prices, name), cheapest_names(other, also, prices, name)
                self.assertEqual((told[0], len(told[-1])), (turn[0], len(turn[-1])))

    def test_programs_apart(self):
        chance = random.Random(154)
        for program in without_products(chance, 60):
            ways = [Program(program.text.replace(' way down', way)) for way in ('', ' way down', ' way up')]
            also = tuple(turned_about(one) for one in ways)
            self.assertEqual(kinds(tuple(ways)), kinds(also))
            self.assertEqual(fewest_inputs(tuple(ways))[0], fewest_inputs(also)[0])
            self.assertEqual(plan(tuple(ways))[0], plan(also)[0])
            if len(program.told) == 1:
                making = (('+', '-'), (), 1)
                self.assertEqual(made(program, making), made(also[1], making))
                found = [least_program(one, making) for one in (program, turned_about(program))]
                self.assertEqual(found[0] is None, found[1] is None)


class EqualCalls(Case):
    """Equal calls return equal results, also with equal objects."""

    def test_equal_programs(self):
        chance = random.Random(155)
        for _ in range(40):
            program = some_program(chance, most_steps=5, most_numbers=4)
            again = Program(program.text)
            looks = some_looks(chance, program)
            for claim in some_claims(chance, program)[:4]:
                for call in (proved, parted):
                    self.same(call(program, claim), call(again, claim))
                self.same(surely(program, looks, claim), surely(again, looks, claim))
            for name in program.names:
                for call in (greatest, lowest, farthest):
                    self.same(call(program, name), call(again, name))
                self.same(best_ask(program, looks, (name,)), best_ask(again, looks, (name,)))


if __name__ == '__main__':
    unittest.main()
