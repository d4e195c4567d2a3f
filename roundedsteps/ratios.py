"""Fractions: tuples (top, bottom) of integers, the bottom from 1 on."""

from math import gcd


def reduced(top, bottom):
    """The fraction in least terms."""
    common = gcd(top, bottom)
    return (top // common, bottom // common)


def is_less(one, other):
    """Whether one fraction is less than the other one."""
    return one[0] * other[1] < other[0] * one[1]


def lesser(one, other):
    """The lesser one of both, the first one if they are equal."""
    return other if is_less(other, one) else one


def greater(one, other):
    """The greater one of both, the first one if they are equal."""
    return other if is_less(one, other) else one


def plus(one, other):
    """The sum of both, in least terms."""
    return reduced(one[0] * other[1] + other[0] * one[1], one[1] * other[1])


def minus(one, other):
    """The difference of both, in least terms."""
    return reduced(one[0] * other[1] - other[0] * one[1], one[1] * other[1])


def times(one, other):
    """The product of both, in least terms."""
    return reduced(one[0] * other[0], one[1] * other[1])


def ratio(one, other):
    """One divided by the other one, which is not 0, in least terms."""
    top = one[0] * other[1]
    bottom = one[1] * other[0]
    return reduced(top, bottom) if bottom > 0 else reduced(-top, -bottom)
