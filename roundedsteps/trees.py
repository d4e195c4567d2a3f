"""Trees of cuts: how a box is halved until all is told, and how a told tree is gone down."""

from roundedsteps.boxes import can_cut, input_place, middle_cut, two_parts


def halvings(program, box, word_of, last):
    """The boxes that halving comes to, (word, box), each ahead of its parts, the part below ahead of the one above.

    A box of which word_of tells None is halved; of a point it tells a word. Behind the word last there is no more.
    """
    rows = []
    waiting = [box]
    while waiting:
        part = waiting.pop()
        word = word_of(part)
        rows.append((word, part))
        if word == last:
            break
        if word is None:
            place, at = middle_cut(program.grid, part)
            below, above = two_parts(program.grid, part, place, at)
            waiting.append(above)
            waiting.append(below)
    return rows


def tree_of(program, rows):
    """The tree of all boxes that halving came to, with their words at its leaves."""
    built = []
    for word, box in reversed(rows):
        if word is not None:
            built.append((word,))
            continue
        place, at = middle_cut(program.grid, box)
        # What was built last is what stands first behind this box.
        below = built.pop()
        above = built.pop()
        built.append(("cut", program.names[place], at, below, above))
    return built[0]


def box_tree(program, rows):
    """The tree of all boxes that halving came to, with the word box at its leaves."""
    return tree_of(program, [(None if word is None else "box", box) for word, box in rows])


def leaf_rows(program, box, tree, words):
    """The leaves, (word, box), of a tree that is gone down from a box; None for what is none with these words."""
    rows = []
    waiting = [(tree, box)]
    while waiting:
        node, part = waiting.pop()
        if not isinstance(node, tuple):
            return None
        if len(node) == 1 and node[0] in words:
            rows.append((node[0], part))
            continue
        parts = cut_parts(program, part, node)
        if parts is None:
            return None
        waiting.append((node[4], parts[1]))
        waiting.append((node[3], parts[0]))
    return rows


def cut_parts(program, box, node):
    """The boxes below and above that a tuple cuts a box into, None for one that cuts none."""
    if len(node) != 5 or node[0] != "cut":
        return None
    place = input_place(program, node[1])
    if place is None or not can_cut(program.grid, box[place], node[2]):
        return None
    return two_parts(program.grid, box, place, node[2])


def is_box_tree(program, box, tree, is_leaf):
    """Whether any value is a tree that can be gone down from a box, with only such leaves."""
    rows = leaf_rows(program, box, tree, ("box",))
    return rows is not None and all([is_leaf(part) for _, part in rows])
