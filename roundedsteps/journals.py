"""Journals: benches as texts, a program and the deeds that were done on it."""

from roundedsteps.bench import Bench
from roundedsteps.deeds import deeds_of, read_line
from roundedsteps.errors import BadJournal, BadProgram, RoundError
from roundedsteps.programs import Program

BEGINNING = "bench"


def journal(bench):
    """The text of a bench: its first program, and the deeds that stand."""
    return "\n".join([bench.first.text, BEGINNING] + list(bench.deeds))


def read_journal(text):
    """The Bench on which all was done that a text tells."""
    if not isinstance(text, str):
        raise BadJournal(0)
    lines = text.split("\n")
    if BEGINNING not in lines:
        raise BadJournal(len(lines) + 1)
    begins = lines.index(BEGINNING)
    bench = Bench(first_program(lines[:begins]))
    for at in range(begins + 1, len(lines)):
        if not is_done(bench, lines[at]):
            raise BadJournal(at + 1)
    return bench


def first_program(lines):
    """The Program of the lines with which a journal begins."""
    try:
        return Program("\n".join(lines))
    except BadProgram as wrong:
        raise BadJournal(wrong.value) from None


def is_done(bench, line):
    """Whether a line tells a deed that is not refused; then it is done."""
    told = read_line(line)
    deeds = deeds_of(bench)
    if told is None or told[0] not in deeds:
        return False
    try:
        do_deed(deeds[told[0]], told[1])
    except RoundError:
        return False
    return True


def do_deed(deed, parts):
    """Do a deed with the parts that its line tells."""
    deed(*parts)
