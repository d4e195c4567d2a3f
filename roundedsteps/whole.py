"""Integers, and what is asked of any value about them."""


def is_whole(value):
    """Whether any value is an integer; True and False are none."""
    return isinstance(value, int) and not isinstance(value, bool)


def is_from_to(value, low, high):
    """Whether any value is an integer from low to high."""
    return is_whole(value) and low <= value <= high


def is_just(value, wanted):
    """Whether any value is this integer, string, None or tuple of such, by its kinds, too: True is not 1."""
    if isinstance(wanted, tuple):
        if not isinstance(value, tuple) or len(value) != len(wanted):
            return False
        return all([is_just(part, also) for part, also in zip(value, wanted)])
    if isinstance(wanted, str):
        return isinstance(value, str) and value == wanted
    return value is None if wanted is None else is_whole(value) and value == wanted


def is_ascending(row):
    """Whether numbers, or strings, ascend, none of them standing twice."""
    return list(row) == sorted(set(row))


def power(base, exponent):
    """The base to the exponent, an integer from 0 on."""
    number = 1
    for _ in range(exponent):
        number = number * base
    return number


def sign_of(number):
    """-1, 0 or 1: on which side of 0 the number stands."""
    if number < 0:
        return -1
    return 1 if number > 0 else 0
