"""Claims: what is wished to be so of a program, and whether it is so at inputs."""

from roundedsteps.boxes import rows_in, whole_box
from roundedsteps.errors import BadClaim
from roundedsteps.programs import rounded_names, step_named
from roundedsteps.ratios import is_less, minus
from roundedsteps.rounding import fitted
from roundedsteps.runs import check_inputs, walked, worth_of
from roundedsteps.signs import ROUNDED_SIGNS, outcome
from roundedsteps.whole import is_whole, sign_of

EXACT_KINDS = ("nearest", "off", "sure", "straight")


def is_so(program, claim, inputs):
    """Whether the claim is so at these inputs."""
    check_claim(program, claim)
    check_inputs(program, inputs)
    return not broken_places(program, (claim,), inputs)


def broken_by(program, claims, inputs):
    """The numbers of the claims that are not so at these inputs."""
    check_claims(program, claims)
    check_inputs(program, inputs)
    return broken_places(program, claims, inputs)


def so_often(program, claim):
    """At how many inputs the claim is so."""
    check_claim(program, claim)
    rows = rows_in(program, whole_box(program))
    return len([row for row in rows if not broken_places(program, (claim,), row)])


def broken_places(program, claims, inputs):
    """What broken_by tells of arguments that are known to be right."""
    known, end = walked(program, inputs, ())
    if end is not None:
        return tuple(range(len(claims)))
    exact = {}
    if any([claim[0] in EXACT_KINDS for claim in claims]):
        exact = walked(program, inputs, rounded_names(program))[0]
    return tuple([at for at, claim in enumerate(claims) if not is_met(program, claim, known, exact)])


def is_met(program, claim, known, exact):
    """Whether a claim is so of the worths of a run that tells, and of those of the exact run."""
    kind = claim[0]
    if kind == "sound":
        return True
    name = claim[1]
    if kind == "within":
        return not is_less(known[name], (claim[2], 1)) and not is_less((claim[3], 1), known[name])
    if kind == "atmost":
        return not is_less(known[claim[2]], known[name])
    if kind == "same":
        return known[name] == known[claim[2]]
    if kind == "plain":
        return lost_nothing(program, name, known)
    if name not in exact:
        return False
    if kind == "straight":
        step = step_named(program, name)
        return takes_third(step, known) == takes_third(step, exact)
    return is_close(program.grid, claim, known[name], exact[name])


def is_close(grid, claim, worth, right):
    """Whether a claim nearest, off or sure is so of a worth and the exact one."""
    if claim[0] == "nearest":
        return worth == (fitted(grid, right[0], right[1], "near", 0), 1)
    if claim[0] == "off":
        return is_small(minus(worth, right), claim[2])
    return is_small(worth, claim[2]) or sign_of(worth[0]) == sign_of(right[0])


def is_small(worth, number):
    """Whether a fraction is from minus the number to the number."""
    return abs(worth[0]) <= number * worth[1]


def takes_third(step, known):
    """Whether a choose takes its third operand, not the fourth one, at these worths."""
    return is_less(worth_of(known, step[2][0]), worth_of(known, step[2][1]))


def lost_nothing(program, name, known):
    """Whether nothing was rounded off in the step of this name, if it is one of + - * /."""
    step = step_named(program, name)
    if step is None or step[1] not in ROUNDED_SIGNS:
        return True
    one, other = [worth_of(known, operand) for operand in step[2]]
    worth = outcome(step[1], one, other, program.grid.unit)
    return not is_less(worth, known[name]) and not is_less(known[name], worth)


def is_claim(program, value):
    """Whether any value is a claim about the program."""
    if not isinstance(value, tuple) or value == ():
        return False
    if value[0] == "sound":
        return len(value) == 1
    if len(value) < 2 or value[1] not in program:
        return False
    return has_form(program, value[0], value[1], value[2:])


def has_form(program, kind, name, told):
    """Whether a claim of this kind about a name can tell these parts behind it."""
    if kind == "within":
        return len(told) == 2 and is_whole(told[0]) and is_whole(told[1]) and told[0] <= told[1]
    if kind in ("atmost", "same"):
        return len(told) == 1 and told[0] in program
    if kind in ("off", "sure"):
        return len(told) == 1 and is_whole(told[0]) and told[0] >= 0
    if kind == "straight":
        step = step_named(program, name)
        return told == () and step is not None and step[1] == "choose"
    return told == () and kind in ("plain", "nearest")


def check_claim(program, claim):
    """Raise BadClaim for what is no claim about the program."""
    if not is_claim(program, claim):
        raise BadClaim(claim)


def check_claims(program, claims):
    """Raise BadClaim for what is no tuple of claims, for the first part that is none if it is a tuple."""
    if not isinstance(claims, tuple):
        raise BadClaim(claims)
    for claim in claims:
        check_claim(program, claim)
