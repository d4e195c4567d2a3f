"""Two programs: whether they do the same at all inputs, or at how many they do not."""

from roundedsteps.boxes import count_in, is_point, lows, whole_box
from roundedsteps.deciding import verdicts
from roundedsteps.errors import OtherInputs
from roundedsteps.programs import joined
from roundedsteps.runs import answer_at, is_inputs
from roundedsteps.trees import box_tree, halvings, is_box_tree, leaf_rows
from roundedsteps.whole import is_just


def same_for_all(one, other):
    """A cut that proves that both do the same at all inputs, or inputs at which they do not."""
    both = joined_alike(one, other)
    rows = halvings(both, whole_box(both), lambda box: likeness(one, other, both, box), "unlike")
    word, last = rows[-1]
    return ("unlike", lows(last)) if word == "unlike" else ("same", box_tree(both, rows))


def shows_same_for_all(one, other, value):
    """Whether any value is a cut that proves that both do the same, or tells inputs at which they do not."""
    both = joined_alike(one, other)
    if not isinstance(value, tuple) or len(value) != 2:
        return False
    if value[0] == "same":
        return is_box_tree(both, whole_box(both), value[1], lambda box: likeness(one, other, both, box) == "same")
    if value[0] != "unlike" or not is_inputs(one, value[1]):
        return False
    return answer_at(one, value[1]) != answer_at(other, value[1])


def unlike_many(one, other):
    """At how many inputs they do not do the same, and a cut that proves it."""
    both = joined_alike(one, other)
    rows = all_likeness(one, other, both)
    return (unlike_count(both, rows), box_tree(both, rows))


def shows_unlike_many(one, other, value):
    """Whether any value tells at how many inputs they do not do the same, and a cut that proves it."""
    both = joined_alike(one, other)
    if not isinstance(value, tuple) or len(value) != 2:
        return False
    found = leaf_rows(both, whole_box(both), value[1], ("box",))
    if found is None:
        return False
    rows = [(likeness(one, other, both, box), box) for _, box in found]
    return all([word is not None for word, _ in rows]) and is_just(value[0], unlike_count(both, rows))


def first_unlike(one, other):
    """The first inputs at which they do not do the same, None if they always do."""
    both = joined_alike(one, other)
    # The first inputs of a box are also the least ones as tuples ascend.
    unlike = [lows(box) for word, box in all_likeness(one, other, both) if word == "unlike"]
    return min(unlike) if unlike else None


def joined_alike(one, other):
    """Both as one program, if they are of one kind."""
    if len(one.told) != len(other.told):
        raise OtherInputs(other)
    return joined(one, other)


def all_likeness(one, other, both):
    """The boxes that halving comes to, each with what both do on it: same, unlike, or None if it is not sure."""
    return halvings(both, whole_box(both), lambda box: likeness(one, other, both, box), "")


def likeness(one, other, both, box):
    """What both do at all inputs in the box: same or unlike; None if it is not sure."""
    if is_point(box):
        inputs = lows(box)
        return "same" if answer_at(one, inputs) == answer_at(other, inputs) else "unlike"
    many = len(one.told)
    claims = [("same", name, also) for name, also in zip(both.told[:many], both.told[many:])]
    found = verdicts(both, claims, box)
    if "not" in found:
        return "unlike"
    return None if "open" in found else "same"


def unlike_count(both, rows):
    """How many rows of inputs are in the boxes on which both do unlike things."""
    return sum([count_in(both.grid, box) for word, box in rows if word == "unlike"])
