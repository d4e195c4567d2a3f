"""The forms of steps that rules are used at, and what they become.

Each rule is a function of a step, the steps of the program by their names, and the names that fresh steps would have.
It tells the steps that stand in the place of this one, and None or, where the step goes, the operand that takes its
place; None alone if the step does not have this form.
"""


def turn(step, steps, fresh):
    """A + B and A * B turned about."""
    if step[1] not in ("+", "*"):
        return None
    one, other = step[2]
    return ([retold(step, step[1], (other, one))], None)


def group(step, steps, fresh):
    """P + C, P being A + B: the last two are put together first."""
    inner = parts_if(step, 0, "+", steps, "+")
    if inner is None:
        return None
    one, other = inner
    return ([fresh_step(fresh[0], "+", other, step[2][1]), retold(step, "+", (one, fresh[0]))], None)


def degroup(step, steps, fresh):
    """A + P, P being B + C: the first two are put together first."""
    inner = parts_if(step, 1, "+", steps, "+")
    if inner is None:
        return None
    one, other = inner
    return ([fresh_step(fresh[0], "+", step[2][0], one), retold(step, "+", (fresh[0], other))], None)


def spread(step, steps, fresh):
    """A * P, P being B + C: both parts are multiplied by themselves."""
    inner = parts_if(step, 1, "*", steps, "+")
    if inner is None:
        return None
    factor = step[2][0]
    ahead = [fresh_step(fresh[0], "*", factor, inner[0]), fresh_step(fresh[1], "*", factor, inner[1])]
    return (ahead + [retold(step, "+", (fresh[0], fresh[1]))], None)


def gather(step, steps, fresh):
    """P + Q, P being A * B, Q A * C: A is multiplied once."""
    one = parts_if(step, 0, "+", steps, "*")
    other = parts_if(step, 1, "+", steps, "*")
    if one is None or other is None or one[0] != other[0]:
        return None
    return ([fresh_step(fresh[0], "+", one[1], other[1]), retold(step, "*", (one[0], fresh[0]))], None)


def alone(step, steps, fresh):
    """A + 0 and A - 0, which are A."""
    if step[1] not in ("+", "-") or step[2][1] != 0:
        return None
    return ([], step[2][0])


def back(step, steps, fresh):
    """P - B, P being A + B, which is A."""
    inner = parts_if(step, 0, "-", steps, "+")
    if inner is None or inner[1] != step[2][1]:
        return None
    return ([], inner[0])


def minus(step, steps, fresh):
    """A - B, as a sum."""
    if step[1] != "-":
        return None
    one, other = step[2]
    return ([fresh_step(fresh[0], "-", 0, other), retold(step, "+", (one, fresh[0]))], None)


def pick(step, steps, fresh):
    """least A B, as a choose."""
    if step[1] != "least":
        return None
    return ([retold(step, "choose", step[2] + step[2])], None)


def unpick(step, steps, fresh):
    """choose A B A B, as a least."""
    if step[1] != "choose" or step[2][:2] != step[2][2:]:
        return None
    return ([retold(step, "least", step[2][:2])], None)


def parts_if(step, place, sign, steps, inner):
    """The operands of the step that stands at a place in a step of this sign, if its own sign is the inner one."""
    if step[1] != sign or step[2][place] not in steps:
        return None
    told = steps[step[2][place]]
    return told[2] if told[1] == inner else None


def retold(step, sign, operands):
    """The step with another sign and other operands."""
    return (step[0], sign, operands, step[3], step[4])


def fresh_step(name, sign, one, other):
    """A step without figures more, rounded near."""
    return (name, sign, (one, other), 0, "near")


RULES = {
    "turn": turn,
    "group": group,
    "degroup": degroup,
    "spread": spread,
    "gather": gather,
    "alone": alone,
    "back": back,
    "minus": minus,
    "pick": pick,
    "unpick": unpick,
}
