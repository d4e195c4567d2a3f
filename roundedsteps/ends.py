"""The greatest and the least that names come to, how far off they are, and comparisons that are turned."""

from roundedsteps.boxes import is_point, lows, middle_cut, point_box, two_parts, whole_box
from roundedsteps.programs import check_name
from roundedsteps.ratios import is_less, lesser
from roundedsteps.runs import is_inputs
from roundedsteps.trees import box_tree, halvings, is_box_tree
from roundedsteps.views import View, off_bounds
from roundedsteps.whole import is_just, is_whole


def greatest(program, name):
    """The greatest worth of a name, inputs at which it has it, and a cut that proves that it is no greater."""
    check_name(program, name)
    told = top(program, lambda box: high_bound(program, name, box))
    return ("never",) if told is None else ("at", told[0][0], told[1], told[2])


def shows_greatest(program, name, value):
    """Whether any value tells the greatest worth of a name, such inputs and such a cut."""
    check_name(program, name)
    return is_end(program, value, 1, lambda box: high_bound(program, name, box))


def lowest(program, name):
    """The least worth of a name, inputs at which it has it, and a cut that proves that it is no less."""
    check_name(program, name)
    told = top(program, lambda box: low_bound(program, name, box))
    return ("never",) if told is None else ("at", -told[0][0], told[1], told[2])


def shows_lowest(program, name, value):
    """Whether any value tells the least worth of a name, such inputs and such a cut."""
    check_name(program, name)
    return is_end(program, value, -1, lambda box: low_bound(program, name, box))


def farthest(program, name):
    """How far a name is from its exact worth at the most, such inputs, and a cut that proves it."""
    check_name(program, name)
    told = top(program, lambda box: off_bound(program, name, box))
    return ("never",) if told is None else ("off", told[0], told[1], told[2])


def shows_farthest(program, name, value):
    """Whether any value tells how far a name is from its exact worth at the most, such inputs and such a cut."""
    check_name(program, name)
    if not isinstance(value, tuple) or len(value) != 4 or value[0] != "off":
        return is_never(program, value, lambda box: off_bound(program, name, box))
    return is_top(program, value[1:], lambda box: off_bound(program, name, box))


def turned(program, one, other):
    """Inputs at which two names compare otherwise than exactly, or a cut that proves that there are none."""
    check_name(program, one)
    check_name(program, other)
    rows = halvings(program, whole_box(program), lambda box: turning(program, one, other, box), "turned")
    word, last = rows[-1]
    return ("turned", lows(last)) if word == "turned" else ("straight", box_tree(program, rows))


def shows_turned(program, one, other, value):
    """Whether any value tells inputs at which two names compare otherwise than exactly, or a cut as turned does."""
    check_name(program, one)
    check_name(program, other)
    if not isinstance(value, tuple) or len(value) != 2:
        return False
    if value[0] == "straight":
        return is_box_tree(program, whole_box(program), value[1],
                           lambda box: turning(program, one, other, box) == "straight")
    if value[0] != "turned" or not is_inputs(program, value[1]):
        return False
    return turning(program, one, other, point_box(value[1])) == "turned"


def turning(program, one, other, box):
    """Whether two names compare on a box as they do exactly, straight or turned; None if that is not sure."""
    side = View(program, box, False).side_of(one, other)
    right = None if side is None else View(program, box, True).side_of(one, other)
    if right is not None:
        return "straight" if side == right else "turned"
    # On a point each name has its worth as its range, unless it does not come.
    return "straight" if is_point(box) else None


def high_bound(program, name, box):
    """The least that the name's worths on the box are told to be at most, None if nothing is told."""
    return least_of([span[1] for span in View(program, box, False).told_spans(name)])


def low_bound(program, name, box):
    """The least that the name's worths on the box, turned about at 0, are told to be at most, None without one."""
    spans = View(program, box, False).told_spans(name)
    return least_of([(-span[0][0], span[0][1]) for span in spans])


def off_bound(program, name, box):
    """The least that the name is told to be off at the most on the box, None if nothing is told."""
    return least_of(off_bounds(View(program, box, False), View(program, box, True), name))


def least_of(bounds):
    """The least of some fractions, None of none."""
    least = None
    for bound in bounds:
        least = bound if least is None else lesser(least, bound)
    return least


def top(program, bound_of):
    """The greatest that a bound tells of a point, the point's inputs, and a cut that proves it; None without one."""
    found = peak(program, bound_of)
    if found is None:
        return None
    bound, inputs = found
    rows = halvings(program, whole_box(program), lambda box: "box" if is_under(bound_of, bound, box) else None, "")
    return (bound, inputs, box_tree(program, rows))


def peak(program, bound_of):
    """The greatest that a bound tells of a point, with the point's inputs; None if it tells nothing of any."""
    whole = whole_box(program)
    waiting = [(bound_of(whole), whole)]
    while waiting:
        bound, box = waiting.pop()
        if not is_point(box):
            place, at = middle_cut(program.grid, box)
            for part in two_parts(program.grid, box, place, at):
                put_by_bound(waiting, bound_of(part), part)
        elif bound is not None:
            # No other box has a greater bound, and none within a box has one that is greater than the box's own.
            return (bound, lows(box))
    return None


def put_by_bound(waiting, bound, box):
    """Put a box behind all boxes with bounds that are not greater; a box without one stands last."""
    low = 0
    high = len(waiting)
    while low < high:
        middle = (low + high) // 2
        if is_above(waiting[middle][0], bound):
            high = middle
        else:
            low = middle + 1
    waiting.insert(low, (bound, box))


def is_above(one, other):
    """Whether one bound is greater than the other one, no bound being greater than all others."""
    if one is None or other is None:
        return other is not None
    return is_less(other, one)


def is_under(bound_of, limit, box):
    """Whether it is told that nothing on a box is above a limit; on a point of which nothing is told nothing is."""
    bound = bound_of(box)
    return is_point(box) if bound is None else not is_less(limit, bound)


def is_end(program, value, turn, bound_of):
    """Whether any value is what greatest, or with the turn -1 lowest, tells by such bounds."""
    if not isinstance(value, tuple) or len(value) != 4 or value[0] != "at" or not is_whole(value[1]):
        return is_never(program, value, bound_of)
    return is_top(program, ((turn * value[1], 1), value[2], value[3]), bound_of)


def is_never(program, value, bound_of):
    """Whether any value is never, and the bound tells nothing of any point."""
    return is_just(value, ("never",)) and peak(program, bound_of) is None


def is_top(program, told, bound_of):
    """Whether the bound tells the first part of inputs, the second one, and the third one is a cut that proves it."""
    limit, inputs, tree = told
    if not is_inputs(program, inputs):
        return False
    found = bound_of(point_box(inputs))
    if found is None or not is_just(limit, found):
        return False
    return is_box_tree(program, whole_box(program), tree, lambda box: is_under(bound_of, found, box))
