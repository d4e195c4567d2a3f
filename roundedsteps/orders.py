"""Orders of sums: what a sum comes to, in whatever sequence its numbers are added."""

from roundedsteps.errors import BadNumbers, BadTree
from roundedsteps.parts import is_numbers
from roundedsteps.rounding import check_way, fitted
from roundedsteps.whole import is_just, is_whole

MOST_NUMBERS = 6


def tree_sum(grid, numbers, tree, way):
    """What the sum of a tree comes to, None if it is over."""
    check_numbers(grid, numbers)
    if not is_sum_tree(numbers, tree):
        raise BadTree(tree)
    check_way(way)
    return worth_of_tree(grid, numbers, tree, way)


def all_sums(grid, numbers, way):
    """All worths of trees, each with such a tree, and a tree that is over, None without one."""
    check_summands(grid, numbers, way)
    return sums_of(grid, numbers, way)


def one_answer(grid, numbers, way):
    """The one worth of all trees, or two trees with unlike worths."""
    check_summands(grid, numbers, way)
    sums, over = sums_of(grid, numbers, way)
    trees = [tree for _, tree in sums]
    if over is not None:
        trees.append(over)
    if len(trees) > 1:
        return ("two", trees[0], trees[1])
    return ("one", sums[0][0] if sums else None)


def shows_one_answer(grid, numbers, way, value):
    """Whether any value tells the one worth of all trees, or two trees with unlike worths."""
    told = one_answer(grid, numbers, way)
    if told[0] == "one" or not isinstance(value, tuple) or len(value) != 3:
        return is_just(value, told)
    word, tree, other = value
    if word != "two" or not is_sum_tree(numbers, tree) or not is_sum_tree(numbers, other):
        return False
    return worth_of_tree(grid, numbers, tree, way) != worth_of_tree(grid, numbers, other, way)


def best_tree(grid, numbers, way):
    """The least distance from the exact sum, and a tree that comes so near; None if all are over."""
    check_summands(grid, numbers, way)
    trees = trees_by_distance(grid, numbers, way)
    return (min(trees), trees[min(trees)]) if trees else None


def shows_best_tree(grid, numbers, way, value):
    """Whether any value is the least distance from the exact sum and a tree that comes so near."""
    return is_distance(grid, numbers, way, best_tree(grid, numbers, way), value)


def worst_tree(grid, numbers, way):
    """The greatest distance from the exact sum, and a tree that goes so far; None if all are over."""
    check_summands(grid, numbers, way)
    trees = trees_by_distance(grid, numbers, way)
    return (max(trees), trees[max(trees)]) if trees else None


def shows_worst_tree(grid, numbers, way, value):
    """Whether any value is the greatest distance from the exact sum and a tree that goes so far."""
    return is_distance(grid, numbers, way, worst_tree(grid, numbers, way), value)


def trees_by_distance(grid, numbers, way):
    """How far worths are from the exact sum, each distance with such a tree."""
    found = {}
    for worth, tree in sums_of(grid, numbers, way)[0]:
        found.setdefault(abs(worth - sum(numbers)), tree)
    return found


def is_distance(grid, numbers, way, told, value):
    """Whether any value is a told distance and a tree that has it."""
    if told is None or not isinstance(value, tuple) or len(value) != 2:
        return told is None and value is None
    if not is_just(value[0], told[0]) or not is_sum_tree(numbers, value[1]):
        return False
    worth = worth_of_tree(grid, numbers, value[1], way)
    return worth is not None and abs(worth - sum(numbers)) == value[0]


def sums_of(grid, numbers, way):
    """What all_sums tells of arguments that are known to be right."""
    everyone = tuple(range(len(numbers)))
    known = {(place,): ({number: place}, None) for place, number in enumerate(numbers)}
    for lot in lots_by_size(everyone):
        if len(lot) > 1:
            known[lot] = joined_sums(grid, known, lot, way)
    sums, over = known[everyone]
    return (tuple([(worth, sums[worth]) for worth in sorted(sums)]), over)


def joined_sums(grid, known, lot, way):
    """The worths of the trees over these places, each with a tree, and one that is over, by those over fewer places."""
    found = {}
    over = None
    for one, other in two_lots(lot):
        for worth, tree in rows_of(known[one]):
            for also, behind in rows_of(known[other]):
                total = added(grid, worth, also, way)
                if total is None:
                    over = (tree, behind)
                else:
                    found.setdefault(total, (tree, behind))
    return (found, over)


def rows_of(sums):
    """Worths with their trees, the worth None with the tree that is over, if there is one."""
    found, over = sums
    return list(found.items()) + ([] if over is None else [(None, over)])


def lots_by_size(places):
    """All lots of these places, each behind all that are within it."""
    found = [()]
    for place in places:
        found = found + [lot + (place,) for lot in found]
    return found


def two_lots(lot):
    """All ways in which places come apart into two lots, neither of them empty, the first place in the first one."""
    found = [(lot[:1], ())]
    for place in lot[1:]:
        found = [(one + (place,), other) for one, other in found] + [(one, other + (place,)) for one, other in found]
    return [(one, other) for one, other in found if other != ()]


def added(grid, one, other, way):
    """The rounded sum of two worths, None if it, or one of them, is over."""
    if one is None or other is None:
        return None
    return fitted(grid, one + other, 1, way, 0)


def worth_of_tree(grid, numbers, tree, way):
    """What tree_sum tells of arguments that are known to be right; such a tree is but six deep."""
    if is_whole(tree):
        return numbers[tree]
    parts = [worth_of_tree(grid, numbers, part, way) for part in tree]
    return added(grid, parts[0], parts[1], way)


def is_sum_tree(numbers, value):
    """Whether any value is a tree over these numbers."""
    places = []
    waiting = [value]
    while waiting:
        part = waiting.pop()
        if isinstance(part, tuple) and len(part) == 2:
            waiting.extend(part)
        elif is_whole(part) and 0 <= part < len(numbers) and part not in places:
            places.append(part)
        else:
            return False
    return len(places) == len(numbers)


def check_numbers(grid, numbers):
    """Raise BadNumbers for what are no numbers of a sum."""
    if not is_numbers(grid, numbers) or not 1 <= len(numbers) <= MOST_NUMBERS:
        raise BadNumbers(numbers)


def check_summands(grid, numbers, way):
    """Raise BadNumbers for what are no numbers of a sum, then BadWay for what is no way."""
    check_numbers(grid, numbers)
    check_way(way)
