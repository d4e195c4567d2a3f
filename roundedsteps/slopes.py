"""Lines as tuples of fractions: what stands alone, and how often each input stands in it."""

from roundedsteps.ratios import minus, plus, times

NOUGHT = (0, 1)


def number_line(worth, many):
    """The line of a number, over so many inputs."""
    return (worth,) + (NOUGHT,) * many


def input_line(place, many):
    """The line of the input at this place, of so many."""
    return (NOUGHT,) * (place + 1) + ((1, 1),) + (NOUGHT,) * (many - place - 1)


def is_number_line(line):
    """Whether no input stands in a line, so that it is that of a number."""
    return all([part == NOUGHT for part in line[1:]])


def line_sum(one, other):
    """The sum of two lines."""
    return tuple([plus(part, also) for part, also in zip(one, other)])


def line_difference(one, other):
    """The difference of two lines."""
    return tuple([minus(part, also) for part, also in zip(one, other)])


def line_times(line, factor):
    """So many times a line."""
    return tuple([times(part, factor) for part in line])


def line_span(line, box):
    """The least and the greatest of a line from the lows to the highs of a box."""
    low = line[0]
    high = line[0]
    for part, pair in zip(line[1:], box):
        first, last = pair if part[0] >= 0 else (pair[1], pair[0])
        low = plus(low, times(part, (first, 1)))
        high = plus(high, times(part, (last, 1)))
    return (low, high)
