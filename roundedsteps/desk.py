"""A desk: a bench that is worked on by lines, each of which is answered."""

from roundedsteps.deeds import deeds_of, read_line
from roundedsteps.errors import BadLine, NoStep
from roundedsteps.journals import do_deed, read_journal
from roundedsteps.programs import step_named
from roundedsteps.runs import run
from roundedsteps.texts import step_line


class Desk:
    """A bench, and what is said to it."""

    def __init__(self, text):
        """Begin with the bench of this journal."""
        self.bench = read_journal(text)

    def say(self, line):
        """The answer to a line."""
        told = read_line(line) if isinstance(line, str) and "\n" not in line else None
        if told is None:
            raise BadLine(line)
        word, parts = told
        bench = self.bench
        if word in ANSWERS:
            answer = ANSWERS[word]
            return answer(bench, parts)
        deeds = deeds_of(bench)
        deeds["undo"] = bench.undo
        deeds["redo"] = bench.redo
        do_deed(deeds[word], parts)
        return "ok"


def many_told(bench, _):
    """How many inputs are left."""
    return str(bench.how_many())


def holds_told(bench, _):
    """What is so of each claim."""
    words = bench.holds()
    return " ".join(words) if words else "none"


def spread_told(bench, parts):
    """The least and the greatest worth of a name."""
    told = bench.spread(parts[0])
    return f"{told[1]} {told[3]}" if told[0] == "worths" else "none"


def run_told(bench, parts):
    """The results at inputs, or where the run ends and why."""
    told = run(bench.program, parts[0])
    if told[0] != "tells":
        return " ".join(told)
    return " ".join([str(worth) for worth in told[1]])


def step_told(bench, parts):
    """The line of a step."""
    step = step_named(bench.program, parts[0])
    if step is None:
        raise NoStep(parts[0])
    return step_line(step)


ANSWERS = {
    "many": many_told,
    "holds": holds_told,
    "spread": spread_told,
    "run": run_told,
    "step": step_told,
}
