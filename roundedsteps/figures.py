"""Cheapest figures: which steps must keep more of them, so that a claim is so for all inputs."""

from roundedsteps.boxes import whole_box
from roundedsteps.claims import broken_places, check_claim
from roundedsteps.errors import BadPrices
from roundedsteps.grids import MOST_FIGURES, MOST_MORE
from roundedsteps.programs import rounded_names
from roundedsteps.proving import is_proof, proof
from roundedsteps.whole import is_from_to, is_just

MOST_PRICED = 4
MOST_TABLED = 2
DEAREST = 99


def cheapest(program, claim, prices):
    """The first choice with which the claim is so for all inputs, and why none ahead of it is; or why none is."""
    check_claim(program, claim)
    check_step_prices(program, prices, MOST_PRICED)
    reasons = []
    tries = []
    for cost, choice in choices_of(prices):
        told = told_with(program, claim, choice, tries)
        if told[0] == "cut":
            return ("choice", cost, choice, told[1], tuple(reasons))
        reasons.append(told[1])
        tries = put_first(tries, told[1])
    return ("none", tuple(reasons))


def shows_cheapest(program, claim, prices, value):
    """Whether any value tells the first choice with which the claim is so, and all that shows it."""
    check_claim(program, claim)
    check_step_prices(program, prices, MOST_PRICED)
    rows = choices_of(prices)
    if not isinstance(value, tuple) or value == () or not isinstance(value[-1], tuple):
        return False
    ahead = len(value[-1])
    if value[0] == "none" and len(value) == 2:
        return ahead == len(rows) and are_reasons(program, claim, rows, value[1])
    if value[0] != "choice" or len(value) != 5 or ahead >= len(rows) or not is_just(value[1:3], rows[ahead]):
        return False
    if not are_reasons(program, claim, rows, value[4]):
        return False
    return shows_with(program, claim, value[2], ("cut", value[3]))


def choices_told(program, claim, prices):
    """For each choice what proved tells of the program with it."""
    check_claim(program, claim)
    check_step_prices(program, prices, MOST_TABLED)
    rows = []
    tries = []
    for _, choice in choices_of(prices):
        told = told_with(program, claim, choice, tries)
        rows.append((choice, told))
        if told[0] == "broken":
            tries = put_first(tries, told[1])
    return tuple(rows)


def shows_choices_told(program, claim, prices, value):
    """Whether any value tells each choice with what proved can tell of the program with it."""
    check_claim(program, claim)
    check_step_prices(program, prices, MOST_TABLED)
    rows = choices_of(prices)
    if not isinstance(value, tuple) or len(value) != len(rows):
        return False
    for part, (_, choice) in zip(value, rows):
        if not isinstance(part, tuple) or len(part) != 2 or not is_just(part[0], choice):
            return False
        if not shows_with(program, claim, choice, part[1]):
            return False
    return True


def upward(program, claim, prices):
    """Whether more figures keep a claim so; otherwise a choice with which it is, and a greater one with which not."""
    rows = choices_told(program, claim, prices)
    for choice, told in rows:
        for other, also in rows:
            if told[0] == "cut" and also[0] == "broken" and is_nowhere_less(other, choice):
                return ("falls", choice, told[1], other, also[1])
    return ("upward",)


def shows_upward(program, claim, prices, value):
    """Whether any value is what upward tells, or shows other such choices."""
    told = upward(program, claim, prices)
    if told == ("upward",) or not isinstance(value, tuple) or len(value) != 5:
        return is_just(value, told)
    word, choice, tree, other, inputs = value
    if word != "falls" or not is_choice_of(prices, choice) or not is_choice_of(prices, other):
        return False
    if not is_nowhere_less(other, choice) or not shows_with(program, claim, choice, ("cut", tree)):
        return False
    return shows_with(program, claim, other, ("broken", inputs))


def told_with(program, claim, choice, tries):
    """What proved tells of the program with a choice; inputs that are worth a try come first."""
    kept = program.with_more(choice)
    for inputs in tries:
        if broken_places(kept, (claim,), inputs):
            return ("broken", inputs)
    return proof(kept, claim, whole_box(kept))


def put_first(tries, inputs):
    """These inputs ahead of all others, as what broke a claim with one choice often breaks it with the next one."""
    return [inputs] + [row for row in tries if row != inputs]


def shows_with(program, claim, choice, told):
    """Whether any value is what proved can tell of the program with a choice."""
    return is_proof(program.with_more(choice), claim, whole_box(program), told)


def are_reasons(program, claim, rows, reasons):
    """Whether the parts of a tuple are inputs at which the claim is not so, each with the choice of its row."""
    found = [shows_with(program, claim, row[1], ("broken", inputs)) for row, inputs in zip(rows, reasons)]
    return all(found)


def choices_of(prices):
    """All choices of these prices, (cost, choice), in their sequence."""
    found = [(0, ())]
    for name, price in prices:
        found = [(cost + price * more, choice + ((name, more),))
                 for cost, choice in found for more in range(MOST_MORE + 1)]
    return sorted(found)


def is_choice_of(prices, value):
    """Whether any value is a choice of these prices."""
    return any([is_just(value, choice) for _, choice in choices_of(prices)])


def is_nowhere_less(one, other):
    """Whether one choice keeps nowhere fewer figures than the other one."""
    return all([part[1] >= also[1] for part, also in zip(one, other)])


def check_step_prices(program, prices, most):
    """Raise BadPrices for what are no prices of at most so many steps + - * /, or too many figures to keep more."""
    if not isinstance(prices, tuple) or not 1 <= len(prices) <= most:
        raise BadPrices(prices)
    if not all([is_step_price(program, part) for part in prices]):
        raise BadPrices(prices)
    names = [name for name, _ in prices]
    if len(set(names)) < len(names) or program.grid.figures + MOST_MORE > MOST_FIGURES:
        raise BadPrices(prices)


def is_step_price(program, value):
    """Whether any value is the name of a step + - * / with its price."""
    if not isinstance(value, tuple) or len(value) != 2 or value[0] not in rounded_names(program):
        return False
    return is_from_to(value[1], 1, DEAREST)
