"""What the signs of steps make of the worths of their operands."""

from roundedsteps.ratios import greater, is_less, lesser

ROUNDED_SIGNS = ("+", "-", "*", "/")


def outcome(sign, one, other, unit):
    """What + - * / makes of two fractions, not always in least terms; None if it divides by 0."""
    if sign == "+":
        return (one[0] * other[1] + other[0] * one[1], one[1] * other[1])
    if sign == "-":
        return (one[0] * other[1] - other[0] * one[1], one[1] * other[1])
    if sign == "*":
        return (one[0] * other[0], one[1] * other[1] * unit)
    if other[0] == 0:
        return None
    top = one[0] * other[1] * unit
    bottom = one[1] * other[0]
    return (top, bottom) if bottom > 0 else (-top, -bottom)


def chosen(sign, parts):
    """Which of the fractions least, most or choose takes."""
    if sign == "least":
        return lesser(parts[0], parts[1])
    if sign == "most":
        return greater(parts[0], parts[1])
    return parts[2] if is_less(parts[0], parts[1]) else parts[3]
