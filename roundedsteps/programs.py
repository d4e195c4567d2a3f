"""Programs: rows of rounded steps over inputs."""

from roundedsteps.errors import BadBox, BadChoices, BadProgram, NoName, OtherInputs, TooLong
from roundedsteps.grids import MOST_FIGURES, MOST_MORE
from roundedsteps.signs import ROUNDED_SIGNS
from roundedsteps.texts import MOST_STEPS, MOST_TOLD, program_text, read_program
from roundedsteps.whole import is_from_to


class Program:
    """What a text tells: a grid, inputs, steps, and the names of its results."""

    def __init__(self, text):
        """Read the text, if it is that of a program."""
        if not isinstance(text, str):
            raise BadProgram(0)
        grid, inputs, steps, told = read_program(text)
        self.text = text
        self.grid = grid
        self.inputs = inputs
        self.steps = steps
        self.told = told
        self.names = tuple([row[0] for row in inputs] + [step[0] for step in steps])

    def __eq__(self, other):
        """Whether other is a Program of the same text."""
        return isinstance(other, Program) and self.text == other.text

    def __len__(self):
        """How many steps there are."""
        return len(self.steps)

    def __contains__(self, value):
        """Whether any value is the name of an input or a step."""
        return value in self.names

    def with_more(self, choices):
        """The Program whose named steps keep just so many figures more."""
        if not is_choices(self, choices):
            raise BadChoices(choices)
        kept = {part[0]: part[1] for part in choices}
        steps = []
        for name, sign, operands, more, way in self.steps:
            steps.append((name, sign, operands, kept.get(name, more), way))
        return Program(program_text(self.grid, self.inputs, steps, self.told))

    def narrowed(self, box):
        """The Program whose inputs have the ranges of a box."""
        if not is_box(self, box):
            raise BadBox(box)
        inputs = [(row[0], pair[0], pair[1]) for row, pair in zip(self.inputs, box)]
        return Program(program_text(self.grid, inputs, self.steps, self.told))


def joined(one, other):
    """The Program with the steps of both, that tells the results of both."""
    if one.grid != other.grid or one.inputs != other.inputs:
        raise OtherInputs(other)
    if len(one) + len(other) > MOST_STEPS:
        raise TooLong(len(one) + len(other))
    if len(one.told) + len(other.told) > MOST_TOLD:
        raise TooLong(len(one.told) + len(other.told))
    ahead, told = called_anew(one, "p")
    behind, also_told = called_anew(other, "q")
    return Program(program_text(one.grid, one.inputs, ahead + behind, told + also_told))


def called_anew(program, letter):
    """The steps, called by a letter and their place from 1 on, and the told names that come of it."""
    names = {row[0]: row[0] for row in program.inputs}
    steps = []
    for name, sign, operands, more, way in program.steps:
        # An operand that is no name is a number, and stays.
        renamed = tuple([names.get(operand, operand) for operand in operands])
        names[name] = f"{letter}{len(steps) + 1}"
        steps.append((names[name], sign, renamed, more, way))
    return (steps, [names[told] for told in program.told])


def step_named(program, name):
    """The step of this name, None if it is that of an input."""
    for step in program.steps:
        if step[0] == name:
            return step
    return None


def rounded_names(program):
    """The names of the steps + - * /, as they stand."""
    return tuple([step[0] for step in program.steps if step[1] in ROUNDED_SIGNS])


def is_choices(program, value):
    """Whether any value is a tuple of (name, more), each name that of a step + - * /, none twice."""
    if not isinstance(value, tuple) or not all([is_choice(program, part) for part in value]):
        return False
    names = [part[0] for part in value]
    return len(set(names)) == len(names)


def is_choice(program, value):
    """Whether any value is a pair of a step + - * / and the figures more that it can keep."""
    if not isinstance(value, tuple) or len(value) != 2 or value[0] not in rounded_names(program):
        return False
    return is_from_to(value[1], 0, MOST_MORE) and program.grid.figures + value[1] <= MOST_FIGURES


def is_box(program, value):
    """Whether any value is a box of the program."""
    if not isinstance(value, tuple) or len(value) != len(program.inputs):
        return False
    return all([is_range(program.grid, pair, row[1], row[2]) for row, pair in zip(program.inputs, value)])


def is_range(grid, value, low, high):
    """Whether any value is a pair of numbers of the grid, ascending or equal, from low to high."""
    if not isinstance(value, tuple) or len(value) != 2:
        return False
    return value[0] in grid and value[1] in grid and low <= value[0] <= value[1] <= high


def check_name(program, name):
    """Raise NoName for what is no name of the program."""
    if name not in program:
        raise NoName(name)
