"""What a box decides of claims: so at all inputs in it, not so at any of them, or open."""

from roundedsteps.boxes import check_box, is_point, lows
from roundedsteps.claims import EXACT_KINDS, broken_places, check_claim, check_claims
from roundedsteps.programs import step_named
from roundedsteps.ratios import greater, is_less, minus
from roundedsteps.rounding import fitted
from roundedsteps.sights import Sight
from roundedsteps.signs import ROUNDED_SIGNS
from roundedsteps.views import is_kept_by_units, off_bounds

NOUGHT = (0, 1)


def decided(program, claim, box):
    """What the box decides of the claim: so, not or open."""
    check_claim(program, claim)
    check_box(program, box)
    return verdicts(program, (claim,), box)[0]


def first_open(program, claims, box):
    """The number of the first claim that the box leaves open, None without one."""
    check_claims(program, claims)
    check_box(program, box)
    found = verdicts(program, claims, box)
    return found.index("open") if "open" in found else None


def verdicts(program, claims, box):
    """What the box decides of each of these claims; all of them are known to be right."""
    if is_point(box):
        broken = broken_places(program, claims, lows(box))
        return ["not" if at in broken else "so" for at in range(len(claims))]
    sight = Sight(program, box)
    return [verdict(sight, claim) for claim in claims]


def verdict(sight, claim):
    """What a box that is no point decides of the claim."""
    kind = claim[0]
    if None in list(sight.view.spans.values()):
        return "open"
    if kind == "sound":
        return "so"
    if kind in EXACT_KINDS and sight.exact_view().spans[claim[1]] is None:
        return "open"
    judge = JUDGES[kind]
    return judge(sight, claim)


def judge_within(sight, claim):
    """What ranges and lines tell of a claim within."""
    low = (claim[2], 1)
    high = (claim[3], 1)
    spans = sight.view.told_spans(claim[1])
    if any([lies_within(span, low, high) for span in spans]):
        return "so"
    return "not" if any([is_less(span[1], low) or is_less(high, span[0]) for span in spans]) else "open"


def judge_atmost(sight, claim):
    """What ranges, lines and lots tell of a claim atmost."""
    name, other = claim[1:]
    if sight.view.is_below(other, name):
        return "not"
    return "so" if sight.view.is_at_most(name, other) or sight.are_alike(name, other) else "open"


def judge_same(sight, claim):
    """What ranges, lines and lots tell of a claim same."""
    name, other = claim[1:]
    if sight.view.is_below(name, other) or sight.view.is_below(other, name):
        return "not"
    # Names whose ranges are one and the same number have its line, so they are alike.
    return "so" if sight.are_alike(name, other) else "open"


def judge_plain(sight, claim):
    """What lines tell of a claim plain."""
    step = step_named(sight.program, claim[1])
    if step is None or step[1] not in ROUNDED_SIGNS:
        return "so"
    return "so" if claim[1] in sight.view.plain else "open"


def judge_nearest(sight, claim):
    """What ranges and lines tell of a claim nearest."""
    name = claim[1]
    grid = sight.program.grid
    line = sight.view.drawn[name]
    if have_one_line(sight, name) and is_kept_by_units(grid, line, sight.box, 0):
        return "so"
    low, high = [fitted(grid, end[0], end[1], "near", 0) for end in sight.exact_view().spans[name]]
    if low is None or high is None:
        return "open"
    span = sight.view.spans[name]
    if low == high and span == ((low, 1), (low, 1)):
        return "so"
    return "not" if is_less(span[1], (low, 1)) or is_less((high, 1), span[0]) else "open"


def judge_off(sight, claim):
    """What ranges and lines tell of a claim off."""
    name, number = claim[1:]
    limit = (number, 1)
    span = sight.view.spans[name]
    right = sight.exact_view().spans[name]
    if any([not is_less(limit, bound) for bound in off_bounds(sight.view, sight.exact_view(), name)]):
        return "so"
    # Of ranges that have something in common neither difference is above 0.
    gap = greater(minus(right[0], span[1]), minus(span[0], right[1]))
    return "not" if is_less(limit, gap) else "open"


def judge_sure(sight, claim):
    """What ranges and lines tell of a claim sure."""
    name, number = claim[1:]
    low = (-number, 1)
    high = (number, 1)
    span = sight.view.spans[name]
    right = sight.exact_view().spans[name]
    if lies_within(span, low, high) or have_one_line(sight, name):
        return "so"
    if is_less(NOUGHT, right[0]) and not is_less(span[0], low):
        return "so"
    if is_less(right[1], NOUGHT) and not is_less(high, span[1]):
        return "so"
    if is_less(high, span[0]) and not is_less(NOUGHT, right[1]):
        return "not"
    return "not" if is_less(span[1], low) and not is_less(right[0], NOUGHT) else "open"


def judge_straight(sight, claim):
    """What ranges and lines tell of a claim straight."""
    one, other = step_named(sight.program, claim[1])[2][:2]
    if have_one_line(sight, one) and have_one_line(sight, other):
        return "so"
    side = sight.view.side_of(one, other)
    right = sight.exact_view().side_of(one, other)
    if side is None or right is None:
        return "open"
    return "so" if side == right else "not"


def lies_within(span, low, high):
    """Whether a range is from low to high."""
    return not is_less(span[0], low) and not is_less(high, span[1])


def have_one_line(sight, operand):
    """Whether an operand has a line, and the same one without rounding."""
    line = sight.view.line_of(operand)
    return line is not None and line == sight.exact_view().line_of(operand)


JUDGES = {
    "within": judge_within,
    "atmost": judge_atmost,
    "same": judge_same,
    "plain": judge_plain,
    "nearest": judge_nearest,
    "off": judge_off,
    "sure": judge_sure,
    "straight": judge_straight,
}
