"""Formulas led over: rules that lead to programs that tell the same, if nothing is rounded."""

from roundedsteps.alike import same_for_all, shows_same_for_all
from roundedsteps.errors import BadRow, BadRule, NoStep, NotLed
from roundedsteps.forms import RULES
from roundedsteps.programs import Program, step_named
from roundedsteps.texts import MOST_STEPS, program_text

LONGEST_ROW = 12


def rule_names():
    """The names of all rules."""
    return tuple(list(RULES.keys()))


def led(program, rule, name):
    """The Program that the rule leads to, used at this step."""
    if rule not in rule_names():
        raise BadRule(rule)
    if step_named(program, name) is None:
        raise NoStep(name)
    found = led_over(program, rule, name)
    if found is None:
        raise NotLed((rule, name))
    return found


def pruned(program):
    """The Program without the steps on which no result hangs."""
    wanted = list(program.told)
    steps = []
    for step in reversed(program.steps):
        if step[0] in wanted:
            steps.append(step)
            wanted.extend(step[2])
    return remade(program, steps[::-1], program.told)


def led_by(program, row):
    """The pruned Program behind all rules of a row, each used at a step."""
    if not isinstance(row, tuple) or len(row) > LONGEST_ROW:
        raise BadRow(0)
    found = program
    for number, part in enumerate(row):
        found = led_over(found, part[0], part[1]) if is_use(found, part) else None
        if found is None:
            raise BadRow(number)
    return pruned(found)


def leads(program):
    """All rules, each with a step at which it can be used."""
    pairs = [(rule, step[0]) for rule in rule_names() for step in program.steps]
    return tuple([pair for pair in pairs if led_over(program, pair[0], pair[1]) is not None])


def kept(program, rule, name):
    """Whether the Program that the rule leads to does the same at all inputs, with what shows it."""
    return same_for_all(program, led(program, rule, name))


def shows_kept(program, rule, name, value):
    """Whether any value shows that the Program that the rule leads to does the same, or does not."""
    return shows_same_for_all(program, led(program, rule, name), value)


def led_over(program, rule, name):
    """The Program that a rule leads to, used at a step; None if it cannot be used there."""
    step = step_named(program, name)
    use = RULES[rule]
    found = use(step, {row[0]: row for row in program.steps}, fresh_names(program))
    if found is None:
        return None
    stead, operand = found
    if operand is None:
        return replaced(program, step, stead)
    if not isinstance(operand, str) and name in program.told:
        return None
    return without(program, name, operand)


def replaced(program, step, stead):
    """The Program with other steps in the place of one, None if they are too many."""
    steps = []
    for row in program.steps:
        steps.extend(stead if row == step else [row])
    return remade(program, steps, program.told) if len(steps) <= MOST_STEPS else None


def without(program, name, operand):
    """The Program without a step, an operand standing for its name."""
    steps = []
    for row in program.steps:
        if row[0] != name:
            steps.append((row[0], row[1], exchanged(row[2], name, operand), row[3], row[4]))
    return remade(program, steps, exchanged(program.told, name, operand))


def exchanged(parts, name, operand):
    """The parts, with an operand wherever the name stood."""
    return tuple([operand if part == name else part for part in parts])


def fresh_names(program):
    """The first two names n with a number that the program does not have."""
    found = []
    number = 1
    while len(found) < 2:
        if f"n{number}" not in program:
            found.append(f"n{number}")
        number = number + 1
    return found


def remade(program, steps, told):
    """The Program of the same grid and inputs with these steps and results."""
    return Program(program_text(program.grid, program.inputs, steps, told))


def is_use(program, value):
    """Whether any value is a pair of a rule and a step of the program."""
    if not isinstance(value, tuple) or len(value) != 2 or value[0] not in rule_names():
        return False
    return step_named(program, value[1]) is not None
