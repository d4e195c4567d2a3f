"""Lots: the names of a program that are alike on a box."""

from roundedsteps.signs import ROUNDED_SIGNS


def lots(view):
    """The names in as many lots as can be, such that names that are told to be alike are of one."""
    labels = first_labels(view)
    merging = True
    while merging:
        # Two lots that become one can make the operands of other steps alike.
        merging = merge_alike(view, labels)
    found = {}
    for name in view.program.names:
        found.setdefault(labels[name], []).append(name)
    return tuple([tuple(names) for names in found.values()])


def first_labels(view):
    """A label for each name and each number that is an operand: the same one for the same line."""
    labels = {}
    drawn = {}
    operands = [operand for step in view.program.steps for operand in step[2]]
    for part in list(view.program.names) + operands:
        line = view.line_of(part)
        if line is None:
            labels[part] = part
        else:
            labels[part] = drawn.setdefault(line, part)
    return labels


def merge_alike(view, labels):
    """Make lots one that are alike by their steps; whether there were any."""
    merged = False
    steps = view.program.steps
    for place, step in enumerate(steps):
        taken = view.sure_operand(step) if step[1] not in ROUNDED_SIGNS else None
        alike = [] if taken is None else [taken]
        alike = alike + [ahead[0] for ahead in steps[:place] if does_alike(ahead, step, labels)]
        for part in alike:
            if labels[part] != labels[step[0]]:
                relabel(labels, labels[step[0]], labels[part])
                merged = True
    return merged


def does_alike(one, other, labels):
    """Whether two steps do the same with operands of one lot each."""
    if (one[1], one[3], one[4]) != (other[1], other[3], other[4]):
        return False
    ahead = [labels[operand] for operand in one[2]]
    behind = [labels[operand] for operand in other[2]]
    if ahead == behind:
        return True
    return one[1] in ("+", "*", "least", "most") and ahead == behind[::-1]


def relabel(labels, old, new):
    """Give all that has the old label the new one."""
    for part in list(labels.keys()):
        if labels[part] == old:
            labels[part] = new
