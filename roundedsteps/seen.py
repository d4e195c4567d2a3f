"""What results leave: the inputs at which a program can have told what was seen."""

from roundedsteps.boxes import lows, rows_in, whole_box
from roundedsteps.claims import broken_places, check_claim
from roundedsteps.deciding import verdicts
from roundedsteps.errors import BadLooks, BadTree
from roundedsteps.programs import check_name, is_range
from roundedsteps.runs import check_inputs, is_inputs, walked
from roundedsteps.trees import halvings, leaf_rows, tree_of
from roundedsteps.whole import is_just

MOST_LOOKS = 6


def is_left(program, looks, inputs):
    """Whether these inputs are left by the looks."""
    check_looks(program, looks)
    check_inputs(program, inputs)
    return are_left(program, looks, inputs)


def left_tree(program, looks):
    """A tree that tells which boxes are left by the looks, and which are not."""
    check_looks(program, looks)
    rows = halvings(program, whole_box(program), lambda box: left_word(program, looks, box), "")
    return tree_of(program, rows)


def shows_left_tree(program, looks, value):
    """Whether any value is a tree that tells which boxes are left by the looks, and which are not."""
    check_looks(program, looks)
    rows = leaf_rows(program, whole_box(program), value, ("in", "out"))
    return rows is not None and all([word == left_word(program, looks, box) for word, box in rows])


def left_boxes(program, tree):
    """The boxes with in of a tree, ascending."""
    rows = leaf_rows(program, whole_box(program), tree, ("in", "out"))
    if rows is None:
        raise BadTree(tree)
    return tuple(sorted([box for word, box in rows if word == "in"]))


def how_many(program, looks):
    """How many inputs are left by the looks."""
    check_looks(program, looks)
    return len(left_runs(program, looks))


def surely(program, looks, claim):
    """A tree that shows that the claim is so at all inputs that are left, or such inputs at which it is not."""
    check_looks(program, looks)
    check_claim(program, claim)
    rows = halvings(program, whole_box(program), lambda box: sure_word(program, looks, claim, box), "broken")
    word, last = rows[-1]
    return ("broken", lows(last)) if word == "broken" else ("surely", tree_of(program, rows))


def shows_surely(program, looks, claim, value):
    """Whether any value is a tree that shows the claim at all inputs that are left, or tells such that break it."""
    check_looks(program, looks)
    check_claim(program, claim)
    if not isinstance(value, tuple) or len(value) != 2:
        return False
    if value[0] == "broken":
        if not is_inputs(program, value[1]) or not are_left(program, looks, value[1]):
            return False
        return broken_places(program, (claim,), value[1]) == (0,)
    if value[0] != "surely":
        return False
    rows = leaf_rows(program, whole_box(program), value[1], ("in", "out"))
    return rows is not None and all([is_sure_leaf(program, looks, claim, word, box) for word, box in rows])


def spread(program, looks, name):
    """The least and the greatest worth that a name has at inputs that are left, and such inputs."""
    check_looks(program, looks)
    check_name(program, name)
    found = [(known[name], inputs) for inputs, known in left_runs(program, looks)]
    if not found:
        return ("none",)
    low, one = min(found)
    high, other = max(found)
    return ("worths", low, one, high, other)


def shows_spread(program, looks, name, value):
    """Whether any value tells the least and the greatest worth of a name at inputs that are left, and such inputs."""
    told = spread(program, looks, name)
    if not isinstance(value, tuple) or len(value) != 5:
        return is_just(value, told)
    if not is_just(value[:2] + value[3:4], told[:2] + told[3:4]):
        return False
    for worth, inputs in (value[1:3], value[3:5]):
        if not is_inputs(program, inputs) or not are_left(program, looks, inputs):
            return False
        if walked(program, inputs, ())[0][name] != (worth, 1):
            return False
    return True


def looks_claims(looks):
    """The claims that are so at the inputs that looks leave."""
    return tuple([("within",) + look for look in looks]) if looks else (("sound",),)


def are_left(program, looks, inputs):
    """What is_left tells of arguments that are known to be right."""
    return not broken_places(program, looks_claims(looks), inputs)


def left_word(program, looks, box):
    """What the box decides of its inputs: in or out; None if that is open."""
    found = verdicts(program, looks_claims(looks), box)
    if "not" in found:
        return "out"
    return None if "open" in found else "in"


def sure_word(program, looks, claim, box):
    """What a box tells of a claim at what is left: in where it is so, out where nothing is left, broken; or None."""
    found = verdicts(program, looks_claims(looks) + (claim,), box)
    if found[-1] == "so":
        return "in"
    if "not" in found[:-1]:
        return "out"
    return None if "open" in found else "broken"


def is_sure_leaf(program, looks, claim, word, box):
    """Whether a word may stand at a box in a tree that surely tells."""
    if word == "in":
        return verdicts(program, (claim,), box) == ["so"]
    return "not" in verdicts(program, looks_claims(looks), box)


def left_runs(program, looks):
    """The inputs that are left, ascending, each with the worths of its run by their names."""
    found = []
    for inputs in rows_in(program, whole_box(program)):
        known, end = walked(program, inputs, ())
        if end is None and all([low <= known[name][0] <= high for name, low, high in looks]):
            found.append((inputs, {name: worth[0] for name, worth in known.items()}))
    return found


def check_looks(program, looks):
    """Raise BadLooks for what are no looks at the program."""
    if not isinstance(looks, tuple) or len(looks) > MOST_LOOKS or not all([is_look(program, part) for part in looks]):
        raise BadLooks(looks)


def is_look(program, value):
    """Whether any value is a look: a name, and a low and a high."""
    if not isinstance(value, tuple) or len(value) != 3 or value[0] not in program:
        return False
    return is_range(program.grid, value[1:], -program.grid.greatest, program.grid.greatest)
