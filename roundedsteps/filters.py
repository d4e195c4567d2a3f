"""Filters: signs that are told by few figures where these are enough, and by more where they are not."""

from roundedsteps.blame import check_few
from roundedsteps.boxes import check_box, rows_in, whole_box
from roundedsteps.errors import BadNumber, BadStages
from roundedsteps.figures import MOST_TABLED, check_step_prices, choices_of, shows_with, told_with
from roundedsteps.programs import is_choices, rounded_names
from roundedsteps.runs import answer_at, check_inputs, is_inputs, walked
from roundedsteps.whole import is_from_to, is_just, is_whole, sign_of

MOST_STAGES = 4
MOST_LAST = 999


def least_bound(program, choice):
    """The least bound by which a stage with this choice is safe, and what shows it; or inputs with which none is."""
    # with_more refuses what is no choice.
    kept = program.with_more(choice)
    rows = rows_in(program, whole_box(program))
    number, inputs = bound_at(kept, rows, exact_signs(program, rows))
    if number is None:
        return ("ends", inputs)
    return ("bound", number, told_with(program, sure_claim(program, number), choice, ())[1], inputs)


def shows_least_bound(program, choice, value):
    """Whether any value tells the least bound and what shows it, or inputs with which none is safe."""
    kept = program.with_more(choice)
    if not isinstance(value, tuple) or len(value) not in (2, 4):
        return False
    if len(value) == 2:
        return value[0] == "ends" and is_inputs(program, value[1]) and is_lost(program, kept, value[1])
    word, number, tree, inputs = value
    if word != "bound" or not is_whole(number) or number < 0:
        return False
    if not shows_with(program, sure_claim(program, number), choice, ("cut", tree)):
        return False
    if number == 0:
        return inputs is None
    return shows_with(program, sure_claim(program, number - 1), choice, ("broken", inputs))


def sign_told(program, stages, inputs):
    """The first stage that decides the inputs, and the sign that it tells; None if none does."""
    check_stages(program, stages)
    check_inputs(program, inputs)
    signs = [sign_by(program.with_more(choice), bound, inputs) for choice, bound in stages]
    return first_sign(signs)


def sign_counts(program, stages, box):
    """How many inputs of the box each stage is the first to decide, and how many none does."""
    check_stages(program, stages)
    check_box(program, box)
    check_few(program, box)
    signs = stage_signs(program, stages, rows_in(program, box))
    counts = [0 for _ in range(len(stages) + 1)]
    for row in zip(*signs):
        told = first_sign(row)
        place = len(stages) if told is None else told[0]
        counts[place] = counts[place] + 1
    return tuple(counts)


def safe(program, stages):
    """For each stage a cut that proves that it tells no wrong sign; or the first one that can, and inputs."""
    check_stages(program, stages)
    trees = []
    for number, (choice, bound) in enumerate(stages):
        told = told_with(program, sure_claim(program, bound), choice, ())
        if told[0] == "broken":
            return ("wrong", number, told[1])
        trees.append(told[1])
    return ("safe", tuple(trees))


def shows_safe(program, stages, value):
    """Whether any value shows that all stages are safe, or tells the first one that is not, and inputs."""
    check_stages(program, stages)
    if not isinstance(value, tuple) or len(value) not in (2, 3):
        return False
    if len(value) == 2:
        if value[0] != "safe" or not isinstance(value[1], tuple) or len(value[1]) != len(stages):
            return False
        return all([shows_stage(program, stage, ("cut", tree)) for stage, tree in zip(stages, value[1])])
    word, number, inputs = value
    if word != "wrong" or not is_from_to(number, 0, len(stages) - 1):
        return False
    return shows_stage(program, stages[number], ("broken", inputs)) and safe(program, stages)[1] == number


def cheapest_stages(program, prices, last, box):
    """The one or two stages by which the inputs of the box pay least, and what they pay; None if none has a bound."""
    check_stage_prices(program, prices, last, box)
    rows = stage_rows(program, prices, rows_in(program, box))
    best = None
    for stages in stage_pairs(rows):
        cost = cost_of(stages, last)
        if best is None or cost < best[0]:
            best = (cost, tuple([row[0] for row in stages]))
    return best


def shows_cheapest_stages(program, prices, last, box, value):
    """Whether any value tells one or two stages by which the inputs of the box pay least, and what they pay."""
    check_stage_prices(program, prices, last, box)
    rows = stage_rows(program, prices, rows_in(program, box))
    if not rows or not isinstance(value, tuple) or len(value) != 2:
        return value is None and not rows
    costs = [(cost_of(stages, last), tuple([row[0] for row in stages])) for stages in stage_pairs(rows)]
    least = min([cost for cost, _ in costs])
    return any([cost == least and is_just(value, (cost, stages)) for cost, stages in costs])


def stage_rows(program, prices, inputs):
    """Each choice that has a bound, (stage, its cost, which of these inputs it decides)."""
    everyone = rows_in(program, whole_box(program))
    signs = exact_signs(program, everyone)
    rows = []
    for cost, choice in choices_of(prices):
        number = bound_at(program.with_more(choice), everyone, signs)[0]
        if number is not None:
            # A choice costs 1 besides.
            rows.append(((choice, number), cost + 1, stage_signs(program, ((choice, number),), inputs)[0]))
    return rows


def stage_pairs(rows):
    """All one or two of these stages, one behind the other."""
    return [(one,) for one in rows] + [(one, other) for one in rows for other in rows]


def cost_of(stages, last):
    """What all inputs pay by these stages, last if none decides."""
    total = 0
    columns = [row[2] for row in stages]
    for signs in zip(*columns):
        told = first_sign(signs)
        gone = stages if told is None else stages[:told[0] + 1]
        total = total + sum([row[1] for row in gone])
        if told is None:
            total = total + last
    return total


def bound_at(kept, rows, signs):
    """The least bound of a program, and inputs that no lesser one has, if it is above 0; or None, and why none is."""
    number = 0
    worst = None
    for inputs, sign in zip(rows, signs):
        answer = answer_at(kept, inputs)
        if answer is None or sign is None:
            return (None, inputs)
        if sign_of(answer[0]) != sign and abs(answer[0]) > number:
            number = abs(answer[0])
            worst = inputs
    return (number, worst)


def exact_signs(program, rows):
    """For each of these inputs the sign of the first result's exact worth, None where the exact run lacks it."""
    name = program.told[0]
    signs = []
    for inputs in rows:
        exact = walked(program, inputs, rounded_names(program))[0]
        signs.append(sign_of(exact[name][0]) if name in exact else None)
    return signs


def is_lost(program, kept, inputs):
    """Whether the run with more figures does not tell at inputs, or the exact run lacks the first result."""
    return bound_at(kept, [inputs], exact_signs(program, [inputs]))[0] is None


def sure_claim(program, bound):
    """The claim that no sign of the first result is wrong beyond a bound."""
    return ("sure", program.told[0], bound)


def shows_stage(program, stage, told):
    """Whether any value is what proved can tell of the claim that a stage is safe."""
    return shows_with(program, sure_claim(program, stage[1]), stage[0], told)


def stage_signs(program, stages, rows):
    """For each stage the signs that it tells at these inputs, 0 where it decides nothing."""
    found = []
    for choice, bound in stages:
        kept = program.with_more(choice)
        found.append([sign_by(kept, bound, inputs) for inputs in rows])
    return found


def sign_by(kept, bound, inputs):
    """The sign that a program tells beyond a bound, 0 if it decides nothing."""
    answer = answer_at(kept, inputs)
    if answer is None or abs(answer[0]) <= bound:
        return 0
    return sign_of(answer[0])


def first_sign(signs):
    """The place of the first sign that is not 0, and this sign; None if all are."""
    for place, sign in enumerate(signs):
        if sign != 0:
            return (place, sign)
    return None


def is_stage(program, value):
    """Whether any value is a choice with a bound."""
    if not isinstance(value, tuple) or len(value) != 2 or not is_choices(program, value[0]):
        return False
    return is_whole(value[1]) and value[1] >= 0


def check_stages(program, stages):
    """Raise BadStages for what are no stages."""
    if not isinstance(stages, tuple) or not 1 <= len(stages) <= MOST_STAGES:
        raise BadStages(stages)
    if not all([is_stage(program, part) for part in stages]):
        raise BadStages(stages)


def check_stage_prices(program, prices, last, box):
    """Raise an error for prices, a last price or a box that cheapest_stages does not take."""
    check_step_prices(program, prices, MOST_TABLED)
    if not is_from_to(last, 1, MOST_LAST):
        raise BadNumber(last)
    check_box(program, box)
    check_few(program, box)
