"""Looks that part most: what to ask about the inputs that are left, and which names tell enough of them."""

from roundedsteps.errors import BadNames, BadPrices
from roundedsteps.programs import check_name
from roundedsteps.rounding import fitted
from roundedsteps.runs import is_inputs
from roundedsteps.seen import check_looks, left_runs
from roundedsteps.whole import is_ascending, is_from_to, is_just

MOST_NAMES = 6
MOST_PRICES = 5
HIGHEST_PRICE = 99


def counted(program, looks, name):
    """The worths that a name has at inputs that are left, each with how many inputs these are."""
    check_looks(program, looks)
    check_name(program, name)
    return counts_of(left_runs(program, looks), name)


def best_ask(program, looks, names):
    """The ask for one of the names by which the fewest inputs are left at the worst."""
    check_looks(program, looks)
    check_names(program, names, 1)
    return ask_of(program.grid, left_runs(program, looks), names)


def shows_best_ask(program, looks, names, value):
    """Whether any value is an ask for one of the names by which the fewest inputs are left at the worst."""
    check_looks(program, looks)
    check_names(program, names, 1)
    runs = left_runs(program, looks)
    told = ask_of(program.grid, runs, names)
    if told == ("none",) or not isinstance(value, tuple) or len(value) != 5:
        return is_just(value, told)
    sign, name, at = value[:3]
    if sign != "ask" or name not in names or at not in program.grid:
        return False
    many = len([known for _, known in runs if known[name] <= at])
    if max(many, len(runs) - many) != max(told[3:]):
        return False
    return is_just(value[3:], (many, len(runs) - many))


def knows(program, looks, names, goal):
    """What goal is for the worths of names at inputs that are left, or two inputs at which these do not tell it."""
    check_looks(program, looks)
    check_names(program, names, 0)
    check_name(program, goal)
    runs = left_runs(program, looks)
    pair = parting_pair(runs, names, goal)
    if pair is not None:
        return ("parts", pair[0], pair[1])
    return ("known", tuple(sorted(set([(worths_of(known, names), known[goal]) for _, known in runs]))))


def shows_knows(program, looks, names, goal, value):
    """Whether any value is what knows tells, or two other such inputs."""
    told = knows(program, looks, names, goal)
    if told[0] == "known":
        return is_just(value, told)
    if not isinstance(value, tuple) or len(value) != 3 or value[0] != "parts":
        return False
    return is_parting(program, left_runs(program, looks), names, goal, value[1:])


def cheapest_names(program, looks, prices, goal):
    """The cheapest lot of names that tells what goal is, and why no lot ahead of it does."""
    check_looks(program, looks)
    check_prices(program, prices)
    check_name(program, goal)
    runs = left_runs(program, looks)
    pair = parting_pair(runs, tuple([name for name, _ in prices]), goal)
    if pair is not None:
        return ("none", pair[0], pair[1])
    lots = lots_of(prices)
    reasons = []
    # The lot of all names tells it, so there is a first one that does.
    pair = parting_pair(runs, lots[0][2], goal)
    while pair is not None:
        reasons.append((lots[len(reasons)][2], pair[0], pair[1]))
        pair = parting_pair(runs, lots[len(reasons)][2], goal)
    price, _, lot = lots[len(reasons)]
    return ("names", price, lot, tuple(reasons))


def shows_cheapest_names(program, looks, prices, goal, value):
    """Whether any value is the cheapest lot that tells what goal is, with why no lot ahead of it does."""
    told = cheapest_names(program, looks, prices, goal)
    runs = left_runs(program, looks)
    if not isinstance(value, tuple) or len(value) != len(told):
        return False
    if told[0] == "none":
        names = tuple([name for name, _ in prices])
        return value[0] == "none" and is_parting(program, runs, names, goal, value[1:])
    if not is_just(value[:3], told[:3]) or not isinstance(value[3], tuple) or len(value[3]) != len(told[3]):
        return False
    for part, reason in zip(value[3], told[3]):
        if not isinstance(part, tuple) or len(part) != 3 or not is_just(part[0], reason[0]):
            return False
        if not is_parting(program, runs, reason[0], goal, part[1:]):
            return False
    return True


def counts_of(runs, name):
    """The worths of a name in these runs, ascending, each with how often it comes."""
    counts = {}
    for _, known in runs:
        counts[known[name]] = counts.get(known[name], 0) + 1
    return tuple(sorted(counts.items()))


def ask_of(grid, runs, names):
    """What best_ask tells of the runs that are left."""
    rows = [(name, counts_of(runs, name)) for name in names]
    if max([len(counts) for _, counts in rows]) < 2:
        return ("none",)
    asks = []
    for name, counts in rows:
        asks.extend([("ask", name, at, many, len(runs) - many) for at, many in cuts_of(grid, counts)])
    best = asks[0]
    for ask in asks:
        if max(ask[3:]) < max(best[3:]):
            best = ask
    return best


def cuts_of(grid, counts):
    """Numbers of the grid, one for each way in which such a number can cut worths, with how many are at most it."""
    found = []
    many = 0
    place = 0
    # There is always a number to ask for, even if none parts the worths.
    numbers = [least_from(grid, worth) for worth, _ in counts] + [grid.greatest]
    for at in sorted(set([number for number in numbers if number is not None])):
        while place < len(counts) and counts[place][0] <= at:
            many = many + counts[place][1]
            place = place + 1
        found.append((at, many))
    return found


def least_from(grid, worth):
    """The least number of the grid that is not below a worth, None if all are."""
    if worth < -grid.greatest:
        return -grid.greatest
    return fitted(grid, worth, 1, "up", 0)


def parting_pair(runs, names, goal):
    """Two inputs of these runs with the same worths of the names and unlike ones of goal, None if there are none."""
    first = {}
    for inputs, known in runs:
        row = worths_of(known, names)
        one, worth = first.setdefault(row, (inputs, known[goal]))
        if worth != known[goal]:
            return (one, inputs)
    return None


def is_parting(program, runs, names, goal, pair):
    """Whether two values are inputs of these runs with the same worths of the names and unlike ones of goal."""
    if not all([is_inputs(program, part) for part in pair]):
        return False
    found = [known for inputs, known in runs if inputs in pair]
    if len(found) != 2:
        return False
    one, other = found
    return worths_of(one, names) == worths_of(other, names) and one[goal] != other[goal]


def worths_of(known, names):
    """The worths of these names."""
    return tuple([known[name] for name in names])


def lots_of(prices):
    """All lots of these names, (price, how many, names), in their sequence."""
    found = [(0, 0, ())]
    for name, price in prices:
        found = found + [(cost + price, many + 1, lot + (name,)) for cost, many, lot in found]
    return sorted(found)


def check_names(program, names, fewest):
    """Raise BadNames for what are no names of the program, ascending, at least so many."""
    if not isinstance(names, tuple) or not fewest <= len(names) <= MOST_NAMES:
        raise BadNames(names)
    if not all([name in program for name in names]) or not is_ascending(names):
        raise BadNames(names)


def check_prices(program, prices):
    """Raise BadPrices for what are no prices of names of the program."""
    if not isinstance(prices, tuple) or not 1 <= len(prices) <= MOST_PRICES:
        raise BadPrices(prices)
    if not all([is_price(program, part) for part in prices]) or not is_ascending([name for name, _ in prices]):
        raise BadPrices(prices)


def is_price(program, value):
    """Whether any value is a name of the program with its price."""
    if not isinstance(value, tuple) or len(value) != 2 or value[0] not in program:
        return False
    return is_from_to(value[1], 1, HIGHEST_PRICE)
