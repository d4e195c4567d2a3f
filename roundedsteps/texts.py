"""The lines of a program's text: how each is read, and how each is written."""

from roundedsteps.errors import BadProgram
from roundedsteps.grids import Grid, MOST_FIGURES, MOST_MORE, is_grid
from roundedsteps.signs import ROUNDED_SIGNS
from roundedsteps.whole import is_from_to

WORDS = ("grid", "input", "tell", "least", "most", "choose", "keep", "way")
WRITTEN_WAYS = ("down", "up", "zero")
MOST_INPUTS = 3
MOST_STEPS = 20
MOST_TOLD = 4
# Python refuses to read integers of some more figures than this.
LONGEST_INTEGER = 4000


def read_program(text):
    """The grid, the inputs, the steps and the told names of a text."""
    lines = text.split("\n")
    grid = read_grid(lines[0])
    if grid is None:
        raise BadProgram(1)
    inputs = read_rows(read_input, lines[1:1 + MOST_INPUTS], grid, [])
    names = [row[0] for row in inputs]
    at = 1 + len(inputs)
    steps = read_rows(read_step, lines[at:at + MOST_STEPS], grid, names) if inputs else []
    at = at + len(steps)
    names = names + [step[0] for step in steps]
    told = read_tell(lines[at], names) if at < len(lines) else None
    if told is None:
        raise BadProgram(at + 1)
    if len(lines) > at + 1:
        raise BadProgram(at + 2)
    return (grid, tuple(inputs), tuple(steps), told)


def read_grid(line):
    """The Grid of a line, None if it tells none."""
    words = line.split(" ")
    if len(words) != 5 or words[0] != "grid":
        return None
    told = [read_integer(word) for word in words[1:]]
    return Grid(*told) if is_grid(told) else None


def read_rows(read, lines, grid, names):
    """What these lines tell one behind the other, each behind these names and those of the lines ahead of it."""
    rows = []
    for line in lines:
        row = read(line, grid, names + [ahead[0] for ahead in rows])
        if row is None:
            break
        rows.append(row)
    return rows


def read_input(line, grid, names):
    """The name, the low and the high of a line, behind these names; None if it tells none."""
    words = line.split(" ")
    if len(words) != 4 or words[0] != "input" or not is_letters(words[1]) or not is_new(words[1], names):
        return None
    low = read_integer(words[2])
    high = read_integer(words[3])
    if low not in grid or high not in grid or low > high:
        return None
    return (words[1], low, high)


def read_step(line, grid, names):
    """The step of a line, behind these names; None if it tells none."""
    words = line.split(" ")
    if len(words) < 5 or words[1] != "=" or not is_step_name(words[0]) or not is_new(words[0], names):
        return None
    form = read_form(words[2:], grid)
    if form is None:
        return None
    sign, told, more, way = form
    operands = [read_operand(word, grid, names) for word in told]
    if None in operands:
        return None
    return (words[0], sign, tuple(operands), more, way)


def read_form(words, grid):
    """The sign, the operands' words, the figures more and the way; None if these words have no form."""
    if words[0] in ("least", "most") and len(words) == 3 or words[0] == "choose" and len(words) == 5:
        return (words[0], words[1:], 0, "near")
    if words[1] not in ROUNDED_SIGNS:
        return None
    keeping = read_keeping(words[3:], grid)
    if keeping is None:
        return None
    return (words[1], [words[0], words[2]], keeping[0], keeping[1])


def read_keeping(words, grid):
    """The figures more and the way that stand behind a step; None for other words."""
    more = 0
    way = "near"
    left = words
    if left[:1] == ["keep"]:
        more = read_integer(left[1]) if len(left) > 1 else None
        if not is_from_to(more, 1, MOST_MORE) or grid.figures + more > MOST_FIGURES:
            return None
        left = left[2:]
    if left[:1] == ["way"]:
        if len(left) < 2 or left[1] not in WRITTEN_WAYS:
            return None
        way = left[1]
        left = left[2:]
    return None if left else (more, way)


def read_operand(word, grid, names):
    """The name or the number that a word is, None for others."""
    if word in names:
        return word
    number = read_integer(word)
    return number if number in grid else None


def read_tell(line, names):
    """The told names of a line, None if it tells none."""
    words = line.split(" ")
    told = words[1:]
    if words[0] != "tell" or not 1 <= len(told) <= MOST_TOLD or not all([word in names for word in told]):
        return None
    return tuple(told)


def read_integer(word):
    """The integer that a word writes as Python does, None if it writes none so."""
    digits = word[1:] if word.startswith("-") else word
    if not digits.isdigit() or not digits.isascii() or len(digits) > LONGEST_INTEGER:
        return None
    if digits.startswith("0") and word != "0":
        return None
    return int(word)


def is_letters(word):
    """Whether a word is one to six letters a to z."""
    return len(word) in range(1, 7) and word.isascii() and word.isalpha() and word.islower()


def is_step_name(word):
    """Whether a word is letters, and none to three figures behind them."""
    letters = word.rstrip("0123456789")
    return is_letters(letters) and len(word) - len(letters) <= 3


def is_new(word, names):
    """Whether a word can be one more name."""
    return word not in WORDS and word not in names


def step_line(step):
    """The line of a step."""
    name, sign, operands, more, way = step
    words = [str(operand) for operand in operands]
    if sign not in ROUNDED_SIGNS:
        return " ".join([name, "=", sign] + words)
    kept = ["keep", str(more)] if more > 0 else []
    ways = ["way", way] if way != "near" else []
    return " ".join([name, "=", words[0], sign, words[1]] + kept + ways)


def program_text(grid, inputs, steps, told):
    """The text of the program with these parts."""
    lines = [f"grid {grid.base} {grid.figures} {grid.reach} {grid.places}"]
    for name, low, high in inputs:
        lines.append(f"input {name} {low} {high}")
    for step in steps:
        lines.append(step_line(step))
    lines.append(" ".join(["tell"] + list(told)))
    return "\n".join(lines)
