"""A bench: a program under hands, with looks and claims, whose deeds are done, taken back and tried."""

from roundedsteps.boxes import input_place, rows_in, whole_box
from roundedsteps.claims import broken_places, check_claim
from roundedsteps.errors import BadLine, BadRange, BadTold, Full, NoClaim, NoInput
from roundedsteps.errors import NoStep, NothingToRedo, NothingToUndo, NoTrial, Wanted
from roundedsteps.programs import Program, check_name, is_range, rounded_names, step_named
from roundedsteps.seen import are_left, how_many, is_look, spread
from roundedsteps.texts import MOST_STEPS, MOST_TOLD, program_text, read_step
from roundedsteps.trials import Trial
from roundedsteps.whole import is_from_to

MOST_HELD = 6


class Bench:
    """A program as it is now, and all that led there.

    A deed is kept as its line; past and future have each deed's line beside what the bench was ahead of it, or
    behind it: these are never changed, only others are put in their place, so a trial can put them back.
    """

    def __init__(self, program):
        """Begin with this program, without looks and claims."""
        self.first = program
        self.block = None
        self.stand_at((), (program, (), ()), ())

    def __eq__(self, other):
        """Whether other is a Bench with the same journal."""
        return isinstance(other, Bench) and self.first == other.first and self.deeds == other.deeds

    def __contains__(self, value):
        """Whether any value is a name of the program as it is now."""
        return value in self.program.names

    def narrow(self, name, low, high):
        """Give an input a range within the one that it has."""
        place = input_place(self.program, name)
        if place is None:
            raise NoInput(name)
        row = self.program.inputs[place]
        if not is_range(self.program.grid, (low, high), row[1], row[2]):
            raise BadRange((low, high))
        box = whole_box(self.program)
        narrower = self.program.narrowed(box[:place] + ((low, high),) + box[place + 1:])
        self.go(f"narrow {name} {low} {high}", (narrower, self.looks, self.claims))

    def see(self, name, low, high):
        """Take one look more."""
        check_name(self.program, name)
        look = (name, low, high)
        if not is_look(self.program, look):
            raise BadRange((low, high))
        check_room(self.looks)
        self.go(f"see {name} {low} {high}", (self.program, self.looks + (look,), self.claims))

    def refine(self, name, more):
        """Let a step + - * / keep just so many figures more."""
        if name not in rounded_names(self.program):
            raise NoStep(name)
        # The grid knows how many figures more there can be.
        self.program.grid.more(more)
        finer = self.program.with_more(((name, more),))
        self.go(f"refine {name} {more}", (finer, self.looks, self.claims))

    def put(self, line):
        """Put the step of a line behind the others."""
        steps = self.program.steps
        step = read_step(line, self.program.grid, self.program.names) if isinstance(line, str) else None
        if step is None or len(steps) >= MOST_STEPS:
            raise BadLine(line)
        longer = changed(self.program, steps + (step,), self.program.told)
        self.go(f"put {line}", (longer, self.looks, self.claims))

    def take(self, name):
        """Take a step away that nothing asks for."""
        if step_named(self.program, name) is None:
            raise NoStep(name)
        if is_wanted(self, name):
            raise Wanted(name)
        steps = tuple([step for step in self.program.steps if step[0] != name])
        shorter = changed(self.program, steps, self.program.told)
        self.go(f"take {name}", (shorter, self.looks, self.claims))

    def tell(self, names):
        """Let these be the results."""
        if not is_told(self.program, names):
            raise BadTold(names)
        other = changed(self.program, self.program.steps, names)
        self.go(" ".join(["tell"] + list(names)), (other, self.looks, self.claims))

    def claim(self, claim):
        """Make one claim more."""
        check_claim(self.program, claim)
        check_room(self.claims)
        words = [str(part) for part in claim]
        self.go(" ".join(["claim"] + words), (self.program, self.looks, self.claims + (claim,)))

    def unclaim(self, number):
        """Take the claim with this number away."""
        if not is_from_to(number, 0, len(self.claims) - 1):
            raise NoClaim(number)
        others = self.claims[:number] + self.claims[number + 1:]
        self.go(f"unclaim {number}", (self.program, self.looks, others))

    def how_many(self):
        """How many inputs are left by the looks."""
        return how_many(self.program, self.looks)

    def holds(self):
        """For each claim whether it is surely so at what is left, or broken."""
        broken = {}
        for inputs in rows_in(self.program, whole_box(self.program)):
            if are_left(self.program, self.looks, inputs):
                for at in broken_places(self.program, self.claims, inputs):
                    broken[at] = True
        return tuple(["broken" if at in broken else "surely" for at in range(len(self.claims))])

    def spread(self, name):
        """The least and the greatest worth of a name at what is left."""
        return spread(self.program, self.looks, name)

    def undo(self):
        """Take the last deed back that stands."""
        if self.past == ():
            raise NothingToUndo(None)
        line, ahead = self.past[-1]
        self.stand_at(self.past[:-1], ahead, self.future + ((line, self.now()),))

    def redo(self):
        """Do the deed again that was taken back last."""
        if self.future == ():
            raise NothingToRedo(None)
        line, then = self.future[-1]
        self.stand_at(self.past + ((line, self.now()),), then, self.future[:-1])

    def trial(self):
        """A block behind which the bench is as it was ahead of it, unless it is kept."""
        return Trial(self)

    def keep(self):
        """Keep what is done in the innermost block."""
        block = self.block
        if block is None:
            raise NoTrial(None)
        block.mark_kept()

    def tried(self, look, *, keep=False):
        """What look tells of the bench, in a block that is kept if keep is True."""
        block = self.trial()
        with block:
            told = look(self)
            if keep is True:
                block.mark_kept()
        return told

    def copy(self):
        """A bench of its own that stands where this one does."""
        other = Bench(self.first)
        other.stand_at(self.past, self.now(), self.future)
        return other

    def now(self):
        """The program as it is, the looks and the claims."""
        return (self.program, self.looks, self.claims)

    def go(self, line, then):
        """Do a deed that is known to be right: its line, and what the bench is behind it."""
        self.stand_at(self.past + ((line, self.now()),), then, ())

    def stand_at(self, past, now, future):
        """Stand behind these deeds and ahead of those, which can be done again."""
        self.past = past
        self.future = future
        self.program, self.looks, self.claims = now
        self.deeds = tuple([line for line, _ in past])
        self.done = len(past)


def changed(program, steps, told):
    """The Program with other steps and results."""
    return Program(program_text(program.grid, program.inputs, steps, told))


def is_told(program, value):
    """Whether any value is a tuple of one to four unlike names of the program."""
    if not isinstance(value, tuple) or not 1 <= len(value) <= MOST_TOLD:
        return False
    return all([part in program for part in value]) and len(set(value)) == len(value)


def is_wanted(bench, name):
    """Whether another step uses a step, or a result, a look or a claim has its name."""
    asked = list(bench.program.told) + [look[0] for look in bench.looks]
    for step in bench.program.steps:
        asked.extend(step[2])
    for claim in bench.claims:
        asked.extend(claim[1:])
    return name in asked


def check_room(held):
    """Raise Full where no look, or no claim, has room any more."""
    if len(held) >= MOST_HELD:
        raise Full(MOST_HELD)
