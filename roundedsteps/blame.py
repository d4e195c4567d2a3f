"""Blame: which steps, done without rounding, make a claim so."""

from roundedsteps.boxes import check_box, count_in, is_in_box, rows_in
from roundedsteps.claims import EXACT_KINDS, is_claim, is_met
from roundedsteps.errors import BadClaim, ManyInputs, NoWorth
from roundedsteps.figures import put_first
from roundedsteps.programs import rounded_names
from roundedsteps.ratios import minus
from roundedsteps.runs import ascending_names, check_inputs, check_lot, is_inputs, walked
from roundedsteps.whole import is_just

ROUNDED_KINDS = ("nearest", "plain")
MOST_POINTS = 400


def holds_mixed(program, claim, lot, inputs):
    """Whether the claim is so at these inputs if the steps of the lot are done without rounding."""
    check_mixed(program, claim)
    check_lot(program, lot)
    check_inputs(program, inputs)
    return holds_with(program, claim, lot, inputs)


def blamed(program, claim, inputs):
    """The lots with which the claim holds mixed at these inputs, and with no lesser lot within."""
    check_mixed(program, claim)
    check_inputs(program, inputs)
    found = []
    for lot in all_lots(program):
        if not any([is_within(least, lot) for least in found]) and holds_with(program, claim, lot, inputs):
            found.append(lot)
    return tuple(found)


def cure(program, claim, box):
    """The first lot with which the claim holds mixed at all inputs of the box, and why none ahead does; or none."""
    check_cured(program, claim, box)
    rows = rows_in(program, box)
    reasons = []
    for lot in all_lots(program):
        inputs = broken_with(program, claim, lot, rows)
        if inputs is None:
            return ("lot", lot, tuple(reasons))
        reasons.append(inputs)
        rows = put_first(rows, inputs)
    return ("none", tuple(reasons))


def shows_cure(program, claim, box, value):
    """Whether any value tells the first lot that cures the box, and inputs that show why none ahead does."""
    check_cured(program, claim, box)
    lots = all_lots(program)
    if not isinstance(value, tuple) or value == () or not isinstance(value[-1], tuple):
        return False
    reasons = value[-1]
    ahead = len(reasons)
    if value[0] == "none" and len(value) == 2:
        return ahead == len(lots) and are_unmet(program, claim, box, lots, reasons)
    if value[0] != "lot" or len(value) != 3 or ahead >= len(lots) or not is_just(value[1], lots[ahead]):
        return False
    if not are_unmet(program, claim, box, lots, reasons):
        return False
    return broken_with(program, claim, lots[ahead], rows_in(program, box)) is None


def shares(program, inputs):
    """By how much each step + - * / takes the first result away from its exact worth."""
    check_inputs(program, inputs)
    names = rounded_names(program)
    told = []
    for many in range(len(names) + 1):
        known, end = walked(program, inputs, names[:many])
        if end is not None:
            raise NoWorth(end)
        told.append(known[program.told[0]])
    return tuple([(name, minus(told[at], told[at + 1])) for at, name in enumerate(names)])


def holds_with(program, claim, lot, inputs):
    """What holds_mixed tells of arguments that are known to be right."""
    known, end = walked(program, inputs, lot)
    if end is not None:
        return False
    exact = walked(program, inputs, rounded_names(program))[0] if claim[0] in EXACT_KINDS else {}
    return is_met(program, claim, known, exact)


def broken_with(program, claim, lot, rows):
    """The first of these inputs at which the claim does not hold mixed with the lot, None without any."""
    for inputs in rows:
        if not holds_with(program, claim, lot, inputs):
            return inputs
    return None


def are_unmet(program, claim, box, lots, reasons):
    """Whether the parts of a tuple are inputs of the box at which the claim does not hold mixed, lot by lot."""
    for lot, inputs in zip(lots, reasons):
        if not is_inputs(program, inputs) or not is_in_box(inputs, box) or holds_with(program, claim, lot, inputs):
            return False
    return True


def all_lots(program):
    """All lots of steps + - * /, in their sequence."""
    found = [(0, ())]
    for name in ascending_names(program):
        found = found + [(many + 1, lot + (name,)) for many, lot in found]
    return [lot for _, lot in sorted(found)]


def is_within(one, other):
    """Whether all names of one lot are in the other one."""
    return all([name in other for name in one])


def check_mixed(program, claim):
    """Raise BadClaim for what is no claim about the program, or one that asks what a step has rounded."""
    if not is_claim(program, claim) or claim[0] in ROUNDED_KINDS:
        raise BadClaim(claim)


def check_cured(program, claim, box):
    """Raise an error for a claim or a box that cure does not take."""
    check_mixed(program, claim)
    check_box(program, box)
    check_few(program, box)


def check_few(program, box):
    """Raise ManyInputs for a box with too many inputs to go through."""
    many = count_in(program.grid, box)
    if many > MOST_POINTS:
        raise ManyInputs(many)
