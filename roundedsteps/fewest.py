"""Programs of one input: the fewest stretches on each of which a claim is decided so."""

from roundedsteps.claims import broken_places, check_claim
from roundedsteps.deciding import verdicts
from roundedsteps.errors import BadInputs, Broken, ManyInputs
from roundedsteps.programs import is_range
from roundedsteps.runs import is_inputs


def reaches(program, claim, low):
    """The greatest number up to which the claim is decided so from low on, None if it is not so at low."""
    check_one_input(program)
    check_claim(program, claim)
    if not is_inputs(program, (low,)):
        raise BadInputs((low,))
    return reach_from(program, claim, low)


def fewest(program, claim):
    """The fewest stretches of all inputs on which the claim is decided so, or inputs that break it."""
    check_one_input(program)
    check_claim(program, claim)
    rows, broken = stretches(program, claim)
    return ("stretches", tuple(rows)) if broken is None else ("broken", broken)


def shows_fewest(program, claim, value):
    """Whether any value tells the fewest stretches, or inputs that break the claim."""
    check_one_input(program)
    check_claim(program, claim)
    if not isinstance(value, tuple) or len(value) != 2:
        return False
    if value[0] == "broken":
        return is_inputs(program, value[1]) and broken_places(program, (claim,), value[1]) == (0,)
    if value[0] != "stretches" or not is_row_of_stretches(program, value[1]):
        return False
    if not all([is_so_on(program, claim, low, high) for low, high in value[1]]):
        return False
    return len(value[1]) == len(stretches(program, claim)[0])


def pins(program, claim):
    """As many numbers as the fewest stretches are, no two of which stand in one stretch that is decided so."""
    check_one_input(program)
    check_claim(program, claim)
    # Each stretch goes as far as it can, so no stretch has the beginnings of two of them in it.
    return tuple([low for low, _ in unbroken_stretches(program, claim)])


def shows_pins(program, claim, value):
    """Whether any value is as many numbers as the fewest stretches are, each needing a stretch of its own."""
    check_one_input(program)
    check_claim(program, claim)
    rows = unbroken_stretches(program, claim)
    if not isinstance(value, tuple) or len(value) != len(rows):
        return False
    if not all([is_inputs(program, (part,)) for part in value]):
        return False
    # A stretch that has two of them in it has two that stand side by side.
    for one, other in zip(value, value[1:]):
        if one >= other or is_so_on(program, claim, one, other):
            return False
    return True


def unbroken_stretches(program, claim):
    """The fewest stretches, if no inputs break the claim."""
    rows, broken = stretches(program, claim)
    if broken is not None:
        raise Broken(broken)
    return rows


def stretches(program, claim):
    """The stretches from the left, each as far as it can be, and the first inputs that break the claim, or None."""
    rows = []
    low, end = program.inputs[0][1:]
    while low is not None and low <= end:
        high = reach_from(program, claim, low)
        if high is None:
            return (rows, (low,))
        rows.append((low, high))
        low = program.grid.after(high)
    return (rows, None)


def reach_from(program, claim, low):
    """What reaches tells of arguments that are known to be right."""
    if not is_so_on(program, claim, low, low):
        return None
    grid = program.grid
    first = grid.rank(low)
    last = grid.rank(program.inputs[0][2])
    reached = first
    step = 1
    growing = True
    # What is so on a stretch is so on each one within it: so steps may grow until one is too wide, then shrink.
    while step > 0:
        if reached + step <= last and is_so_on(program, claim, low, grid.number(reached + step)):
            reached = reached + step
        else:
            growing = False
        step = step * 2 if growing else step // 2
    return grid.number(reached)


def is_so_on(program, claim, low, high):
    """Whether the claim is decided so on a stretch."""
    return verdicts(program, (claim,), ((low, high),)) == ["so"]


def is_row_of_stretches(program, value):
    """Whether any value is a tuple of stretches, ascending, that have all inputs in them, each just once."""
    if not isinstance(value, tuple):
        return False
    low, end = program.inputs[0][1:]
    for part in value:
        if low is None or not is_range(program.grid, part, low, end) or part[0] != low:
            return False
        low = program.grid.after(part[1])
    return low is None or low > end


def check_one_input(program):
    """Raise ManyInputs for a program with more than one input."""
    if len(program.inputs) > 1:
        raise ManyInputs(len(program.inputs))
