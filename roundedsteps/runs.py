"""Runs: what a program comes to at inputs, rounded, exactly, or with some steps exact."""

from roundedsteps.errors import BadInputs, BadLot, NoEnd
from roundedsteps.programs import rounded_names
from roundedsteps.ratios import minus, reduced
from roundedsteps.rounding import fitted
from roundedsteps.signs import ROUNDED_SIGNS, chosen, outcome
from roundedsteps.whole import is_ascending


def run(program, inputs):
    """What the run tells, or at which step it ends, and why."""
    check_inputs(program, inputs)
    return end_of(program, inputs)


def worths(program, inputs):
    """The names with their worths, as far as the run goes."""
    check_inputs(program, inputs)
    known = walked(program, inputs, ())[0]
    return tuple([(name, worth[0]) for name, worth in known.items()])


def exact_run(program, inputs):
    """What the run in which nothing is rounded tells, or at which step it ends, and why."""
    return mixed_run(program, inputs, ascending_names(program))


def exact_worths(program, inputs):
    """The names with their exact worths, as far as the exact run goes."""
    return mixed_worths(program, inputs, ascending_names(program))


def mixed_run(program, inputs, lot):
    """What the run tells in which the steps of the lot are not rounded, or at which step it ends, and why."""
    check_inputs(program, inputs)
    check_lot(program, lot)
    known, end = walked(program, inputs, lot)
    if end is not None:
        return end
    return ("tells", tuple([known[name] for name in program.told]))


def mixed_worths(program, inputs, lot):
    """The names with their worths, as far as the mixed run goes."""
    check_inputs(program, inputs)
    check_lot(program, lot)
    return tuple(walked(program, inputs, lot)[0].items())


def off_by(program, inputs):
    """For each result, by how much it is greater than its exact worth."""
    told = mixed_run(program, inputs, ())
    if told[0] != "tells":
        raise NoEnd(told)
    exact = exact_run(program, inputs)
    if exact[0] != "tells":
        raise NoEnd(exact)
    return tuple([minus(worth, right) for worth, right in zip(told[1], exact[1])])


def end_of(program, inputs):
    """What run tells of inputs that are known to be right."""
    known, end = walked(program, inputs, ())
    return ("tells", tuple([known[name][0] for name in program.told])) if end is None else end


def answer_at(program, inputs):
    """The results that the run tells, None if it does not tell."""
    told = end_of(program, inputs)
    return told[1] if told[0] == "tells" else None


def walked(program, inputs, free):
    """The worths by their names, as fractions, and the end that does not tell, or None; free steps stay exact."""
    known = {}
    for row, number in zip(program.inputs, inputs):
        known[row[0]] = (number, 1)
    for step in program.steps:
        name, sign, operands = step[:3]
        parts = [worth_of(known, operand) for operand in operands]
        if sign not in ROUNDED_SIGNS:
            known[name] = chosen(sign, parts)
            continue
        worth = outcome(sign, parts[0], parts[1], program.grid.unit)
        if worth is None:
            return (known, ("nought", name))
        kept = reduced(worth[0], worth[1]) if name in free else step_rounded(program.grid, step, worth)
        if kept is None:
            return (known, ("over", name))
        known[name] = kept
    return (known, None)


def worth_of(known, operand):
    """The worth of a name that is known, or of a number."""
    return known[operand] if isinstance(operand, str) else (operand, 1)


def step_rounded(grid, step, worth):
    """The fraction rounded as the step tells, over 1; None if it is over."""
    number = fitted(grid, worth[0], worth[1], step[4], step[3])
    return None if number is None else (number, 1)


def ascending_names(program):
    """The lot of all steps + - * /, without whose rounding a run is exact."""
    return tuple(sorted(rounded_names(program)))


def is_inputs(program, value):
    """Whether any value is a row of inputs of the program."""
    if not isinstance(value, tuple) or len(value) != len(program.inputs):
        return False
    return all([part in program.grid and row[1] <= part <= row[2] for row, part in zip(program.inputs, value)])


def is_lot(program, value):
    """Whether any value is an ascending tuple of names of steps + - * /."""
    names = rounded_names(program)
    if not isinstance(value, tuple) or not all([part in names for part in value]):
        return False
    return is_ascending(value)


def check_inputs(program, inputs):
    """Raise BadInputs for what are no inputs of the program."""
    if not is_inputs(program, inputs):
        raise BadInputs(inputs)


def check_lot(program, lot):
    """Raise BadLot for what is no lot of the program."""
    if not is_lot(program, lot):
        raise BadLot(lot)
