"""Claims for all inputs: proved by a cut into boxes that decide them, or broken at some inputs."""

from roundedsteps.boxes import check_box, count_in, is_in_box, lows, whole_box
from roundedsteps.claims import broken_places, check_claim
from roundedsteps.deciding import verdicts
from roundedsteps.errors import BadTree
from roundedsteps.runs import is_inputs
from roundedsteps.trees import box_tree, halvings, is_box_tree, leaf_rows, tree_of


def leaves(program, tree):
    """The boxes that a tree cuts the whole box into, those below ahead of those above."""
    rows = leaf_rows(program, whole_box(program), tree, ("box",))
    if rows is None:
        raise BadTree(tree)
    return tuple([box for _, box in rows])


def proved(program, claim):
    """A cut that proves the claim for all inputs, or inputs that break it."""
    check_claim(program, claim)
    return proof(program, claim, whole_box(program))


def shows_proved(program, claim, value):
    """Whether any value is a cut that proves the claim for all inputs, or tells inputs that break it."""
    check_claim(program, claim)
    return is_proof(program, claim, whole_box(program), value)


def proved_on(program, claim, box):
    """A cut that proves the claim for all inputs in the box, or inputs in it that break it."""
    check_claim(program, claim)
    check_box(program, box)
    return proof(program, claim, box)


def shows_proved_on(program, claim, box, value):
    """Whether any value is a cut that proves the claim on the box, or tells inputs in it that break it."""
    check_claim(program, claim)
    check_box(program, box)
    return is_proof(program, claim, box, value)


def parted(program, claim):
    """A tree that tells on which boxes the claim is so, and on which it is not."""
    check_claim(program, claim)
    rows = halvings(program, whole_box(program), lambda box: word_on(program, claim, box), "")
    return tree_of(program, rows)


def shows_parted(program, claim, value):
    """Whether any value is a tree that tells on which boxes the claim is so, and on which it is not."""
    check_claim(program, claim)
    rows = leaf_rows(program, whole_box(program), value, ("so", "not"))
    return rows is not None and all([word == word_on(program, claim, box) for word, box in rows])


def so_many(program, tree):
    """How many rows of inputs are in the leaves so of a tree."""
    rows = leaf_rows(program, whole_box(program), tree, ("so", "not"))
    if rows is None:
        raise BadTree(tree)
    return sum([count_in(program.grid, box) for word, box in rows if word == "so"])


def proof(program, claim, box):
    """What proved_on tells of arguments that are known to be right."""
    rows = halvings(program, box, lambda part: word_on(program, claim, part), "not")
    word, last = rows[-1]
    return ("broken", lows(last)) if word == "not" else ("cut", box_tree(program, rows))


def is_proof(program, claim, box, value):
    """What shows_proved_on tells of arguments that are known to be right."""
    if not isinstance(value, tuple) or len(value) != 2:
        return False
    if value[0] == "cut":
        return is_box_tree(program, box, value[1], lambda part: word_on(program, claim, part) == "so")
    return value[0] == "broken" and is_in_box_broken(program, claim, box, value[1])


def is_in_box_broken(program, claim, box, value):
    """Whether any value is inputs in the box at which the claim is not so."""
    return is_inputs(program, value) and is_in_box(value, box) and broken_places(program, (claim,), value) == (0,)


def word_on(program, claim, box):
    """What the box decides of the claim: so or not; None if it is open."""
    word = verdicts(program, (claim,), box)[0]
    return None if word == "open" else word
