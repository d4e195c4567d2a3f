"""Least programs: the first of all short ones that does the same at all inputs."""

from roundedsteps.boxes import count_in, rows_in, whole_box
from roundedsteps.errors import BadMaking, ManyInputs, ManyResults, NoEnd, OtherInputs
from roundedsteps.parts import is_numbers
from roundedsteps.programs import Program
from roundedsteps.ratios import is_less, minus
from roundedsteps.runs import answer_at, end_of, exact_run
from roundedsteps.texts import program_text
from roundedsteps.whole import is_ascending, is_from_to

MOST_ROWS = 4096
SIGNS = ("*", "+", "-", "least", "most")


def all_inputs(program):
    """All inputs, ascending."""
    check_rows(program)
    return tuple(rows_in(program, whole_box(program)))


def parting(one, other):
    """The first inputs at which both do not tell the same, None without any."""
    check_pair(one, other)
    for inputs in rows_in(one, whole_box(one)):
        if answer_at(one, inputs) != answer_at(other, inputs):
            return inputs
    return None


def made(program, making):
    """How many programs there are of a making."""
    check_making(program, making)
    signs, numbers, most = making
    operands = len(program.inputs) + len(numbers)
    first = len(signs) * operands * operands
    second = len(signs) * (operands + 1) * (operands + 1)
    return len(program.inputs) + (first if most > 0 else 0) + (first * second if most > 1 else 0)


def least_program(program, making):
    """The first program of a making that does the same at all inputs, None without any."""
    check_one_result(program)
    check_making(program, making)
    check_rows(program)
    rows = [(inputs, answer_at(program, inputs)) for inputs in rows_in(program, whole_box(program))]
    for steps, name in makings(program, making):
        found = Program(program_text(program.grid, program.inputs, steps, (name,)))
        parted = parting_place(found, rows)
        if parted is None:
            return found
        # Inputs at which one program parts soon part others, too.
        rows = [rows[parted]] + rows[:parted] + rows[parted + 1:]
    return None


def never_better(one, other):
    """Whether one result is never nearer to its exact worth than another one, or the first inputs at which it is."""
    check_pair(one, other)
    check_one_result(one)
    check_one_result(other)
    better = None
    for inputs in rows_in(one, whole_box(one)):
        nearer = is_nearer(one, other, inputs)
        if nearer and better is None:
            better = inputs
    return ("never",) if better is None else ("better", better)


def is_nearer(one, other, inputs):
    """Whether one result is nearer to its exact worth than the other one; all of them must be told."""
    told = []
    for end in (end_of(one, inputs), end_of(other, inputs), exact_run(one, inputs)):
        if end[0] != "tells":
            raise NoEnd((inputs, end))
        told.append(end[1][0])
    exact = told[2]
    return is_less(distance((told[0], 1), exact), distance((told[1], 1), exact))


def distance(one, other):
    """How far two fractions are from one another."""
    top, bottom = minus(one, other)
    return (abs(top), bottom)


def makings(program, making):
    """The steps and the result of each program of a making, in their sequence."""
    signs, numbers, most = making
    names = [row[0] for row in program.inputs]
    operands = names + list(numbers)
    found = [((), name) for name in names]
    firsts = all_steps("w1", signs, operands) if most > 0 else []
    found.extend([((first,), "w1") for first in firsts])
    seconds = all_steps("w2", signs, operands + ["w1"]) if most > 1 else []
    found.extend([((first, second), "w2") for first in firsts for second in seconds])
    return found


def all_steps(name, signs, operands):
    """All steps of this name, by their signs, then by their operands."""
    return [(name, sign, (one, other), 0, "near") for sign in signs for one in operands for other in operands]


def parting_place(program, rows):
    """The place of the first of these (inputs, answer) that the program answers otherwise, None without one."""
    for place, (inputs, answer) in enumerate(rows):
        if answer_at(program, inputs) != answer:
            return place
    return None


def is_making(program, value):
    """Whether any value is a making of the program."""
    if not isinstance(value, tuple) or len(value) != 3:
        return False
    signs, numbers, most = value
    if not isinstance(signs, tuple) or len(signs) > 3 or not all([part in SIGNS for part in signs]):
        return False
    if not is_numbers(program.grid, numbers) or len(numbers) > 2 or not is_from_to(most, 0, 2):
        return False
    return is_ascending(signs) and is_ascending(numbers)


def check_making(program, making):
    """Raise BadMaking for what is no making of the program."""
    if not is_making(program, making):
        raise BadMaking(making)


def check_rows(program):
    """Raise ManyInputs for a program with too many inputs to go through."""
    many = count_in(program.grid, whole_box(program))
    if many > MOST_ROWS:
        raise ManyInputs(many)


def check_pair(one, other):
    """Raise an error unless both have the same inputs, and few enough to go through."""
    if one.grid != other.grid or one.inputs != other.inputs:
        raise OtherInputs(other)
    check_rows(one)


def check_one_result(program):
    """Raise ManyResults for a program with more than one result."""
    if len(program.told) > 1:
        raise ManyResults(len(program.told))
