"""Folds: programs whose result is their next state, and all that they can come to."""

from roundedsteps.errors import BadFold, BadPart, BadParts, BadStart, BadStarts
from roundedsteps.programs import is_range
from roundedsteps.runs import end_of
from roundedsteps.whole import is_just

MOST_PARTS = 4096


def folded(program, start, parts):
    """The states that a list of parts leads to, or why a lap tells none, which lap, and the states up to it."""
    check_fold(program)
    check_start(program, start)
    if not is_parts(program, parts) or len(parts) > MOST_PARTS:
        raise BadParts(parts)
    states = [start]
    for at, part in enumerate(parts):
        why, number = lap(program, states[-1], part)
        if why is not None:
            return (why, at, tuple(states))
        states.append(number)
    return ("tells", tuple(states))


def least_closed(program, starts):
    """The lot of all states that can be come to from the starts, or a start and parts that lead out of the range."""
    check_fold(program)
    check_starts(program, starts)
    came, last = spreading(program, starts)
    if last is None:
        return ("closed", lot_of(program.grid, sorted(came)))
    parts = []
    # The way is told from its end.
    step = last
    while step is not None:
        state, part = step
        parts.append(part)
        step = came[state]
    return ("leaves", state, tuple(parts[::-1]))


def shows_least_closed(program, starts, value):
    """Whether any value is what least_closed tells, or another start and as many parts that lead out."""
    told = least_closed(program, starts)
    if told[0] == "closed" or not isinstance(value, tuple) or len(value) != 3:
        return is_just(value, told)
    word, start, parts = value
    if word != "leaves" or not is_range(program.grid, (start, start), starts[0], starts[1]):
        return False
    if not is_parts(program, parts) or len(parts) != len(told[2]):
        return False
    return folded(program, start, parts)[0] != "tells"


def least_kept(program, starts):
    """The least range that is kept, or states and parts that show that none is."""
    check_fold(program)
    check_starts(program, starts)
    low, high = starts
    parts = inputs_from(program, 1)
    waiting = numbers_from(program.grid, low, high)
    rows = []
    while waiting:
        state = waiting.pop()
        for part in parts:
            why, number = lap(program, state, part)
            if why is not None:
                return ("none", tuple(rows) + ((state, part),))
            if not low <= number <= high:
                rows.append((state, part))
                waiting.extend(numbers_between(program.grid, low, high, number))
                low = min(low, number)
                high = max(high, number)
    return ("kept", low, high)


def shows_least_kept(program, starts, value):
    """Whether any value is the least range that is kept, or shows that none is."""
    told = least_kept(program, starts)
    if told[0] == "kept" or not isinstance(value, tuple) or len(value) != 2:
        return is_just(value, told)
    return value[0] == "none" and are_leading_out(program, starts, value[1])


def are_leading_out(program, starts, rows):
    """Whether any value is rows of which the last one leads out of the range, all others to further states in it."""
    if not isinstance(rows, tuple) or not all([isinstance(row, tuple) and len(row) == 2 for row in rows]):
        return False
    low, high = starts
    why = None
    for state, part in rows:
        if why is not None or not is_range(program.grid, (state, state), low, high) or not is_parts(program, (part,)):
            return False
        why, number = lap(program, state, part)
        if why is None:
            low = min(low, number)
            high = max(high, number)
    return why is not None


def lap(program, state, part):
    """Why a lap tells no state, and None; or None, and the state that it tells."""
    told = end_of(program, (state, part))
    if told[0] != "tells":
        return (told, None)
    number = told[1][0]
    return (None, number) if is_state(program, number) else (("left", number), None)


def spreading(program, starts):
    """By which (state, part) each state is come to first, None for starts; and the first (state, part) that leaves."""
    states = numbers_from(program.grid, starts[0], starts[1])
    came = {state: None for state in states}
    parts = inputs_from(program, 1)
    at = 0
    # What is come to by fewer laps stands ahead, so the first lap that leaves ends one of the shortest lists.
    while at < len(states):
        for part in parts:
            why, number = lap(program, states[at], part)
            if why is not None:
                return (came, (states[at], part))
            if number not in came:
                came[number] = (states[at], part)
                states.append(number)
        at = at + 1
    return (came, None)


def lot_of(grid, numbers):
    """Ascending numbers as a lot: as few ranges as can be."""
    rows = []
    for number in numbers:
        if rows and grid.before(number) == rows[-1][1]:
            rows[-1] = (rows[-1][0], number)
        else:
            rows.append((number, number))
    return tuple(rows)


def numbers_from(grid, low, high):
    """All numbers of the grid from low to high."""
    return [grid.number(rank) for rank in range(grid.rank(low), grid.rank(high) + 1)]


def numbers_between(grid, low, high, number):
    """All numbers of the grid from a range, without its ends, to a number that is not in it, itself with them."""
    if number < low:
        return numbers_from(grid, number, grid.before(low))
    return numbers_from(grid, grid.after(high), number)


def inputs_from(program, place):
    """All numbers of the input at this place."""
    return numbers_from(program.grid, program.inputs[place][1], program.inputs[place][2])


def is_state(program, value):
    """Whether any value is a number of the grid in the state's range."""
    return value in program.grid and program.inputs[0][1] <= value <= program.inputs[0][2]


def is_parts(program, value):
    """Whether any value is a tuple of numbers of the grid in the part's range."""
    if not isinstance(value, tuple):
        return False
    return all([part in program.grid and program.inputs[1][1] <= part <= program.inputs[1][2] for part in value])


def check_fold(program):
    """Raise BadFold for a program that is no fold."""
    if len(program.inputs) != 2 or len(program.told) != 1:
        raise BadFold(program)


def check_start(program, start):
    """Raise BadStart for what is no start."""
    if not is_state(program, start):
        raise BadStart(start)


def check_part(program, part):
    """Raise BadPart for what is no part."""
    if not is_parts(program, (part,)):
        raise BadPart(part)


def check_starts(program, starts):
    """Raise BadStarts for what are no starts."""
    if not is_range(program.grid, starts, program.inputs[0][1], program.inputs[0][2]):
        raise BadStarts(starts)
