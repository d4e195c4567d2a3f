"""Section 23: cheapest figures."""

import random
import unittest
from itertools import product

from roundedsteps.errors import BadClaim, BadPrices
from roundedsteps.figures import (cheapest, choices_told, shows_cheapest, shows_choices_told, shows_upward, upward)
from roundedsteps.programs import Program
from tests import slow, slow_cuts
from tests.helping import Case, some_claims, some_program, variants, wrong_values
from tests.test_claims import wrong_claims
from tests.test_looks import strictly

BACK = Program('grid 2 3 4 0\ninput a 1 7\ninput b 1 7\ns = a + b\nt = s - a\ntell t')
WISH = ('same', 't', 'b')
# 37 is 36 with a figure more, a tie that becomes 32; at once it becomes 40.
TWICE = Program('grid 2 3 4 0\ninput a 32 40\ninput b 4 6\ns = a + b\nt = s + 0\ntell t')


class Slow:
    """All choices of prices, in sequence, each with the inputs at which the claim is not so with it."""

    def __init__(self, program, claim, prices):
        self.program, self.claim = program, claim
        names = [name for name, _ in prices]
        rows = []
        for mores in product(range(4), repeat=len(prices)):
            cost = sum(price * more for (_, price), more in zip(prices, mores))
            rows.append((cost, tuple(zip(names, mores))))
        self.rows = sorted(rows)
        self.kept = {choice: program.with_more(choice) for _, choice in rows}
        self.broken = {}
        for choice, other in self.kept.items():
            self.broken[choice] = [row for row in slow.inputs_of(other) if not slow.is_so(other, claim, row)]
        self.good = [choice for _, choice in self.rows if not self.broken[choice]]

    def breaks(self, choice, value):
        return slow_cuts.are_inputs(self.program, value) and value in self.broken[choice]

    def proves(self, choice, tree):
        return slow_cuts.proves(self.kept[choice], self.claim, ('cut', tree))

    def shows_cheapest(self, value):
        if type(value) is not tuple or not value or type(value[-1]) is not tuple:
            return False
        ahead = len(self.rows)
        if self.good:
            ahead = [choice for _, choice in self.rows].index(self.good[0])
            if len(value) != 5 or not strictly(value[:3], ('choice',) + self.rows[ahead]):
                return False
            if not self.proves(self.good[0], value[3]):
                return False
        elif len(value) != 2 or value[0] != 'none':
            return False
        return len(value[-1]) == ahead and all(self.breaks(choice, row) for (_, choice), row in zip(self.rows, value[-1]))

    def shows_told(self, value):
        if type(value) is not tuple or len(value) != len(self.rows):
            return False
        for part, (_, choice) in zip(value, self.rows):
            if type(part) is not tuple or len(part) != 2 or not strictly(part[0], choice):
                return False
            if not slow_cuts.proves(self.kept[choice], self.claim, part[1]):
                return False
        return True

    def is_choice(self, value):
        return any(strictly(value, choice) for choice in self.kept)

    def falls(self, choice, other):
        return all(more >= less for (_, more), (_, less) in zip(other, choice)) and choice in self.good and other not in self.good

    def shows_upward(self, value):
        if type(value) is not tuple:
            return False
        if not any(self.falls(choice, other) for choice in self.kept for other in self.kept):
            return strictly(value, ('upward',))
        if len(value) != 5 or value[0] != 'falls' or not self.is_choice(value[1]) or not self.is_choice(value[3]):
            return False
        return self.falls(value[1], value[3]) and self.proves(value[1], value[2]) and self.breaks(value[3], value[4])


def some_priced(chance, most, most_numbers):
    """A program, a claim, and prices of at most so many of its steps, not ascending; None if it has no such steps."""
    program = some_program(chance, most_steps=7, most_numbers=most_numbers)
    names = slow.rounding_steps(program)
    if not names:
        return None
    names = chance.sample(names, min(len(names), chance.choice([1, most, most])))
    prices = tuple((name, chance.choice([1, 1, 2, 3, 7])) for name in names)
    return program, chance.choice(some_claims(chance, program)), prices


def mending(chance):
    """A program that rounds several times, and a claim that some figures more may mend, or spoil."""
    ways = [chance.choice(['', '', ' way down', ' way up']) for _ in range(3)]
    low = chance.choice([4, 16, 32])
    lines = ['grid 2 3 5 0', f'input a {low} {2 * low}', f'input b {chance.choice([1, 3])} {chance.choice([4, 5, 6])}',
             's = a + b' + ways[0], 't = s ' + chance.choice(['+', '-']) + ' ' + chance.choice(['0', '1', 'a', 'b']) + ways[1],
             'u = t + s' + ways[2], 'tell t']
    claims = [('nearest', 't'), ('off', 't', chance.randint(0, 2)), ('same', 't', 'b'), ('off', 'u', chance.randint(0, 3)),
              ('atmost', 't', 's'), ('plain', 't')]
    names = chance.sample(['s', 't', 'u'], chance.randint(1, 2))
    return Program('\n'.join(lines)), chance.choice(claims), tuple((name, chance.randint(1, 3)) for name in names)


class Against(Case):
    """Held against all inputs with all choices, and values near what is told."""

    def test_cheapest(self):
        chance = random.Random(161)
        words, lengths = {'choice': 0, 'none': 0}, []
        for number in range(200):
            most = 4 if number % 10 == 0 else 3 if number % 10 == 5 else 2
            told = mending(chance) if number % 2 else some_priced(chance, most, 2 if most == 4 else 3)
            if told is None:
                continue
            other = Slow(*told)
            value = cheapest(*told)
            words[value[0]] += 1
            lengths.append(len(value[-1]))
            self.assertTrue(other.shows_cheapest(value), (told[0].text, told[1:], value))
            for part in variants(chance, value, 8):
                self.assertIs(shows_cheapest(*told, part), other.shows_cheapest(part))
        self.assertGreater(min(words.values()), 30)
        self.assertGreater(len([length for length in lengths if 0 < length < 16]), 15)
        self.assertGreater(max(lengths), 100)

    def test_choices_told(self):
        chance = random.Random(162)
        mixed = 0
        for number in range(120):
            told = mending(chance) if number % 3 else some_priced(chance, 2, 3)
            if told is None:
                continue
            other = Slow(*told)
            value = choices_told(*told)
            mixed += 0 < len(other.good) < len(value)
            self.assertTrue(other.shows_told(value))
            for part in variants(chance, value, 6):
                self.assertIs(shows_choices_told(*told, part), other.shows_told(part))
        self.assertGreater(mixed, 15)

    def test_upward(self):
        chance = random.Random(163)
        words = {'upward': 0, 'falls': 0}
        for number in range(120):
            told = mending(chance) if number % 5 else some_priced(chance, 2, 3)
            if told is None:
                continue
            other = Slow(*told)
            value = upward(*told)
            words[value[0]] += 1
            self.assertTrue(other.shows_upward(value), (told[0].text, told[1:], value))
            for part in variants(chance, value, 8) + [('upward',)]:
                self.assertIs(shows_upward(*told, part), other.shows_upward(part))
        self.assertGreater(min(words.values()), 8)

    def test_prices_in_another_sequence_and_so_many_times_as_much(self):
        chance = random.Random(164)
        for _ in range(60):
            program, claim, prices = mending(chance)
            told, back = cheapest(program, claim, prices), cheapest(program, claim, prices[::-1])
            dear = cheapest(program, claim, tuple((name, 7 * price) for name, price in prices))
            self.assertEqual([told[0], told[0]], [back[0], dear[0]])
            if told[0] == 'choice':
                self.assertEqual([told[1], told[2:]], [back[1], dear[2:]])
                self.assertEqual(dear[1], 7 * told[1])
            self.assertTrue(shows_cheapest(program, claim, prices, told) and shows_cheapest(program, claim, prices[::-1], back))
            if told[0] == 'choice' and len(prices) == 2:
                self.assertFalse(shows_cheapest(program, claim, prices, back) or shows_cheapest(program, claim, prices[::-1], told))
            self.assertEqual(upward(program, claim, prices)[0], upward(program, claim, prices[::-1])[0])
            one, other = choices_told(program, claim, prices), choices_told(program, claim, prices[::-1])
            self.assertEqual({tuple(sorted(row[0])): row[1][0] for row in one}, {tuple(sorted(row[0])): row[1][0] for row in other})


class Edges(Case):
    """What the section names."""

    def test_the_example(self):
        told = cheapest(BACK, WISH, (('t', 1), ('s', 4)))
        self.same(told[:3], ('choice', 4, (('t', 0), ('s', 1))))
        self.same(told[3], ('box',))
        self.same(len(told[4]), 4)
        reasons = ((7, 2), (2, 7), (7, 4), (6, 3))
        right = told[:3] + (('box',), reasons)
        self.same(shows_cheapest(BACK, WISH, (('t', 1), ('s', 4)), right), True)
        cut = ('cut', 'a', 3, ('box',), ('cut', 'b', 6, ('box',), ('box',)))
        self.same(shows_cheapest(BACK, WISH, (('t', 1), ('s', 4)), told[:3] + (cut, reasons)), True)
        for wrong in (right[:4], right[:4] + (reasons[1:],), right[:4] + (reasons + ((7, 2),),), right[:4] + (((1, 1),) + reasons[1:],),
                      right[:4] + (list(reasons),), ('choice', 5) + right[2:], ('choice', 4, (('s', 1), ('t', 0))) + right[3:],
                      ('choice', 4, (('t', False), ('s', True))) + right[3:], ('none', reasons), ('none',) + right[1:], right + (None,),
                      right[:3] + (('box',), ()), right[:3] + (('cut', 'a', 7, ('box',), ('box',)), reasons), list(right), None):
            self.same(shows_cheapest(BACK, WISH, (('t', 1), ('s', 4)), wrong), False)
        self.same(cheapest(BACK, WISH, (('t', 9),))[0], 'none')
        self.same(shows_cheapest(BACK, WISH, (('t', 9),), ('none', ((7, 2),) * 4)), True)
        self.same([shows_cheapest(BACK, WISH, (('t', 9),), ('none', part)) for part in
                   (((7, 2),) * 3, ((7, 2),) * 5, ((7, 2),) * 3 + ((1, 1),), (), [(7, 2)] * 4, None)], [False] * 6)
        self.same(shows_cheapest(BACK, WISH, (('t', 9),), ('choice', 0, (('t', 0),), ('box',), ((7, 2),) * 4)), False)
        self.same(upward(BACK, WISH, (('s', 1),)), ('upward',))

    def test_the_sequence_of_choices(self):
        # By what they cost, then as tuples: of the same cost the one with less of the first name comes first.
        rows = choices_told(BACK, WISH, (('t', 2), ('s', 1)))
        self.same([row[0] for row in rows[:6]], [(('t', 0), ('s', 0)), (('t', 0), ('s', 1)), (('t', 0), ('s', 2)), (('t', 1), ('s', 0)),
                                                 (('t', 0), ('s', 3)), (('t', 1), ('s', 1))])
        self.same([row[1][0] for row in rows[:6]], ['broken', 'cut', 'cut', 'broken', 'cut', 'cut'])
        self.same(len(rows), 16)
        self.same([row[0] for row in choices_told(BACK, WISH, (('s', 99),))], [(('s', 0),), (('s', 1),), (('s', 2),), (('s', 3),)])

    def test_good_as_it_stands(self):
        self.same(cheapest(BACK, ('sound',), (('t', 1), ('s', 4))), ('choice', 0, (('t', 0), ('s', 0)), ('box',), ()))
        self.same(shows_cheapest(BACK, ('sound',), (('t', 5),), ('choice', 0, (('t', 0),), ('box',), ())), True)
        self.same(shows_cheapest(BACK, ('sound',), (('t', 5),), ('choice', False, (('t', 0),), ('box',), ())), False)

    def test_what_the_program_tells_is_not_kept(self):
        # A choice tells how many figures these steps keep, whatever the program tells; all others keep theirs.
        program = Program(BACK.text.replace('s = a + b', 's = a + b keep 1'))
        self.same(cheapest(program, WISH, (('s', 3),))[:3], ('choice', 3, (('s', 1),)))
        self.same(cheapest(program, WISH, (('t', 3),))[:3], ('choice', 0, (('t', 0),)))
        self.same(choices_told(program, WISH, (('s', 3),))[0][1][0], 'broken')

    def test_more_figures_are_worse(self):
        told = upward(TWICE, ('nearest', 't'), (('s', 1),))
        self.same([told[0], told[1], told[3]], ['falls', (('s', 0),), (('s', 1),)])
        self.same(shows_upward(TWICE, ('nearest', 't'), (('s', 1),), told), True)
        self.same(cheapest(TWICE, ('nearest', 't'), (('s', 1),))[:3], ('choice', 0, (('s', 0),)))
        wanted = ('falls', (('s', 0),), ('box',), (('s', 1),), (32, 5))
        tree = told[2]
        self.same(shows_upward(TWICE, ('nearest', 't'), (('s', 1),), wanted[:2] + (tree,) + wanted[3:]), True)
        for wrong in (('upward',), wanted[:2] + (None,) + wanted[3:], wanted[:2] + (tree, (('s', 0),), (32, 5)), ('falls',),
                      wanted[:2] + (tree, (('s', 1),), (32, 4)), wanted[:2] + (tree, (('s', 1),), [32, 5]),
                      ('falls', (('s', False),), tree, (('s', 1),), (32, 5)), ('falls', (('s', 0),), tree, (('s', True),), (32, 5)),
                      ('falls', (('s', 1),), tree, (('s', 1),), (32, 5)), ('falls', (('t', 0),), tree, (('s', 1),), (32, 5))):
            self.same(shows_upward(TWICE, ('nearest', 't'), (('s', 1),), wrong), False)
        told = choices_told(TWICE, ('nearest', 't'), (('s', 1), ('t', 1)))
        self.same(sorted({row[1][0] for row in told}), ['broken', 'cut'])

    def test_a_choice_that_is_less_somewhere_does_not_fall(self):
        told = {row[0]: row[1][0] for row in choices_told(TWICE, ('nearest', 't'), (('s', 1), ('t', 1)))}
        good = [choice for choice, word in told.items() if word == 'cut']
        bad = [choice for choice, word in told.items() if word == 'broken']
        value = upward(TWICE, ('nearest', 't'), (('s', 1), ('t', 1)))
        self.assertIn(value[1], good)
        self.assertIn(value[3], bad)
        pairs = [(choice, other) for choice in good for other in bad if any(x[1] < y[1] for x, y in zip(other, choice))]
        self.assertTrue(pairs)
        for choice, other in pairs:
            tree = dict(choices_told(TWICE, ('nearest', 't'), (('s', 1), ('t', 1))))[choice][1]
            inputs = dict(choices_told(TWICE, ('nearest', 't'), (('s', 1), ('t', 1))))[other][1]
            self.same(shows_upward(TWICE, ('nearest', 't'), (('s', 1), ('t', 1)), ('falls', choice, tree, other, inputs)), False)

    def test_four_names(self):
        program = Program('grid 2 3 4 0\ninput a 1 7\ninput b 1 7\ns = a + b\nt = s - a\nu = s - b\nv = t + u\ntell v')
        prices = (('v', 1), ('u', 2), ('t', 3), ('s', 4))
        told = cheapest(program, ('same', 'v', 's'), prices)
        self.same(shows_cheapest(program, ('same', 'v', 's'), prices, told), True)
        self.assertTrue(Slow(program, ('same', 'v', 's'), prices).shows_cheapest(told))
        self.assertGreater(len(told[-1]), 4)

    def test_values_of_any_kind(self):
        prices = (('s', 1),)
        right = choices_told(BACK, WISH, prices)
        for value in wrong_values():
            self.same(shows_cheapest(BACK, WISH, prices, value), False)
            self.same(shows_cheapest(BACK, WISH, prices, ('none', value)), False)
            self.same(shows_cheapest(BACK, WISH, prices, ('choice', 1, (('s', 1),), ('box',), value)), False)
            self.same(shows_cheapest(BACK, WISH, prices, ('choice', 1, (('s', 1),), value, ((7, 2),))), False)
            self.same(shows_cheapest(BACK, WISH, prices, ('choice', value, (('s', 1),), ('box',), ((7, 2),))), False)
            self.same(shows_cheapest(BACK, WISH, prices, ('choice', 1, value, ('box',), ((7, 2),))), False)
            self.same(shows_choices_told(BACK, WISH, prices, value), False)
            self.same(shows_choices_told(BACK, WISH, prices, right[:3] + (value,)), False)
            self.same(shows_choices_told(BACK, WISH, prices, right[:3] + ((right[3][0], value),)), False)
            self.same(shows_choices_told(BACK, WISH, prices, right[:3] + ((value, right[3][1]),)), False)
            self.same(shows_upward(BACK, WISH, prices, value), False)
            self.same(shows_upward(TWICE, ('nearest', 't'), prices, value), False)
        self.same(shows_cheapest(BACK, WISH, prices, ('choice', 1, (('s', 1),), ('box',), ((7, 2),))), True)
        self.same(shows_choices_told(BACK, WISH, prices, right), True)
        self.same(shows_choices_told(BACK, WISH, prices, right[::-1]), False)


class Refused(Case):
    """Wrong arguments, the first error first."""

    def test_claims(self):
        for value in wrong_claims():
            for call in (cheapest, choices_told, upward):
                self.refused(BadClaim, value, call, BACK, value, None)
            for call in (shows_cheapest, shows_choices_told, shows_upward):
                self.refused(BadClaim, value, call, BACK, value, None, None)

    def test_prices(self):
        wrong = [[('s', 1)], (['s', 1],), (('s', 0),), (('s', 100),), (('s', True),), (('s', '1'),), (('s', None),), (('s',),),
                 (('s', 1, 1),), (('u', 1),), (('a', 1),), (('s', 1), ('s', 2)), (('s', 1), None), ('s', 1), (('s', -1),), ((1, 's'),),
                 ((('s',), 1),), (('s', 1), ('t', 1), ('s', 1)), ()]
        for value in wrong_values() + wrong:
            for call in (cheapest, choices_told, upward):
                self.refused(BadPrices, value, call, BACK, WISH, value)
            for call in (shows_cheapest, shows_choices_told, shows_upward):
                self.refused(BadPrices, value, call, BACK, WISH, value, None)

    def test_how_many_prices(self):
        program = Program('grid 2 3 2 0\ninput a 1 2\n' + ''.join(f's{at} = a + 1\n' for at in range(5)) + 'm = most a 1\ntell a')
        prices = tuple((f's{at}', 1) for at in range(5))
        self.refused(BadPrices, prices, cheapest, program, ('sound',), prices)
        self.refused(BadPrices, prices, shows_cheapest, program, ('sound',), prices, None)
        self.same(cheapest(program, ('sound',), prices[:4])[0], 'choice')
        three = prices[:3]
        for call in (choices_told, upward):
            self.refused(BadPrices, three, call, program, ('sound',), three)
        for call in (shows_choices_told, shows_upward):
            self.refused(BadPrices, three, call, program, ('sound',), three, None)
        self.same(upward(program, ('sound',), prices[:2]), ('upward',))
        wrong = (('m', 1),)
        self.refused(BadPrices, wrong, cheapest, program, ('sound',), wrong)

    def test_grids_of_many_figures(self):
        for figures, fits in ((26, True), (27, True), (28, False), (30, False)):
            program = Program(f'grid 2 {figures} 2 0\ninput a 1 2\ns = a + 1\ntell s')
            prices = (('s', 1),)
            if fits:
                self.same(upward(program, ('sound',), prices), ('upward',))
                self.same(cheapest(program, ('same', 's', 'a'), prices)[0], 'none')
                continue
            for call in (cheapest, choices_told, upward):
                self.refused(BadPrices, prices, call, program, ('sound',), prices)

    def test_named_arguments(self):
        told = cheapest(program=BACK, claim=WISH, prices=(('s', 1),))
        self.same(shows_cheapest(program=BACK, claim=WISH, prices=(('s', 1),), value=told), True)
        told = choices_told(program=BACK, claim=WISH, prices=(('s', 1),))
        self.same(shows_choices_told(program=BACK, claim=WISH, prices=(('s', 1),), value=told), True)
        told = upward(program=BACK, claim=WISH, prices=(('s', 1),))
        self.same(shows_upward(program=BACK, claim=WISH, prices=(('s', 1),), value=told), True)


if __name__ == '__main__':
    unittest.main()
