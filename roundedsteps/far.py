"""Far laps: what a fold comes to with one part again and again, and what sums of one part come to."""

from roundedsteps.errors import BadLaps, BadNumber
from roundedsteps.folds import check_fold, check_part, check_start, inputs_from, lap, lot_of
from roundedsteps.grids import spacing_at
from roundedsteps.rounding import check_way, fitted
from roundedsteps.whole import is_from_to

MOST_LAPS = 1000000000000000000


def stuck(program, part):
    """The lot of all states that the lap with this part leads to themselves."""
    check_fold(program)
    check_part(program, part)
    states = [state for state in inputs_from(program, 0) if lap(program, state, part) == (None, state)]
    return lot_of(program.grid, states)


def ring(program, start, part):
    """Behind how many laps the states come again, and each how many laps; or why a lap tells none, and which lap."""
    check_circled(program, start, part)
    states, why, again = circled(program, start, part)
    return ("ring", again, len(states) - again) if why is None else (why, len(states) - 1)


def behind(program, start, part, laps):
    """The state behind so many laps, or why a lap tells none, and which lap."""
    check_circled(program, start, part)
    check_laps(laps)
    states, why, again = circled(program, start, part)
    if laps < len(states):
        return ("state", states[laps])
    if why is not None:
        return (why, len(states) - 1)
    return ("state", states[again + (laps - again) % (len(states) - again)])


def drift(grid, start, part, way, laps):
    """The state behind so many sums, or which of them is over."""
    check_summed(grid, start, part, way)
    check_laps(laps)
    return summed(grid, start, part, way, laps)[0]


def stall(grid, start, part, way):
    """The state at which sums do not go on any more, and behind how many; or which of them is over."""
    check_summed(grid, start, part, way)
    told, gone = summed(grid, start, part, way, None)
    return ("stalls", told[1], gone) if told[0] == "state" else told


def circled(program, start, part):
    """The states one behind the other, until a lap tells none, and why; or until one comes again, and its place."""
    states = [start]
    places = {start: 0}
    while True:
        why, number = lap(program, states[-1], part)
        if why is not None:
            return (states, why, None)
        if number in places:
            return (states, None, places[number])
        places[number] = len(states)
        states.append(number)


def summed(grid, start, part, way, laps):
    """What drift tells, and behind how many laps this is come to first; laps None for as many as change anything."""
    state = start
    gone = 0
    while laps is None or gone < laps:
        number = fitted(grid, state + part, 1, way, 0)
        if number is None:
            return (("over", gone), gone)
        if number == state:
            break
        gone = gone + 1
        step, many = laps_ahead(grid, state, number, part, way)
        if laps is not None:
            many = min(many, laps - gone)
        state = number + many * step
        gone = gone + many
    return (("state", state), gone)


def laps_ahead(grid, state, number, part, way):
    """How far each lap goes from a number on that follows a state, and how many laps go so far at least."""
    low, high = ground_of(grid, state)
    # States and exact sums go one way, so those ahead of the next sum are on the same ground if it is.
    if not low <= number + part <= high:
        return (0, 0)
    # There all steps but the first one are the same.
    further = fitted(grid, number + part, 1, way, 0)
    if further is None or further == number:
        return (0, 0)
    room = high - number if part > 0 else number - low
    return (further - number, (room - abs(part)) // abs(further - number))


def ground_of(grid, worth):
    """The least and the greatest integer between the same powers of the base as a worth; those around 0 are one."""
    spacing = spacing_at(grid, abs(worth), 0)
    high = spacing * grid.limits[0] - 1
    if spacing == 1:
        return (-high, high)
    low = spacing * grid.limits[0] // grid.base
    return (low, high) if worth > 0 else (-high, -low)


def check_circled(program, start, part):
    """Raise an error for what is no fold, no start of it, or no part."""
    check_fold(program)
    check_start(program, start)
    check_part(program, part)


def check_laps(laps):
    """Raise BadLaps for what is no number of laps."""
    if not is_from_to(laps, 0, MOST_LAPS):
        raise BadLaps(laps)


def check_summed(grid, start, part, way):
    """Raise BadNumber for a start or a part that is no number of the grid, BadWay for what is no way."""
    for number in (start, part):
        if number not in grid:
            raise BadNumber(number)
    check_way(way)
