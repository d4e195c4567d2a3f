"""The errors: each one keeps its only argument as its value."""


class RoundError(ValueError):
    """What all errors of the package derive from."""

    def __init__(self, value):
        """Keep any value."""
        self.value = value


class BadGrid(RoundError):
    """No base, figures, reach and places of a grid."""


class NoNumber(RoundError):
    """No number of the grid."""


class NoRank(RoundError):
    """The rank of no number of the grid."""


class BadMore(RoundError):
    """No figures more that can be kept."""


class BadFraction(RoundError):
    """No fraction with a bottom from 1 on."""


class BadWay(RoundError):
    """No way of rounding."""


class BadRow(RoundError):
    """No row of this kind, or the part of it that cannot stand there."""


class BadWorth(RoundError):
    """No worth that the grid reaches."""


class BadFour(RoundError):
    """No four numbers of the grid."""


class BadProgram(RoundError):
    """The line of a text that is no program."""


class BadChoices(RoundError):
    """No choices of figures more for steps."""


class BadBox(RoundError):
    """No box."""


class OtherInputs(RoundError):
    """A program whose inputs are not those of the other one."""


class TooLong(RoundError):
    """How many steps or results are too many."""


class BadInputs(RoundError):
    """No inputs of the program."""


class BadLot(RoundError):
    """No lot of names of steps."""


class NoEnd(RoundError):
    """An end of a run that does not tell."""


class BadNumber(RoundError):
    """No number that is asked for."""


class BadName(RoundError):
    """No name of an input."""


class BadCut(RoundError):
    """No number at which a box is cut."""


class BadLine(RoundError):
    """No line."""


class BadClaim(RoundError):
    """No claim about the program."""


class BadTree(RoundError):
    """No tree of this kind."""


class ManyInputs(RoundError):
    """How many inputs are too many."""


class Broken(RoundError):
    """Inputs at which the claim is not so."""


class NoName(RoundError):
    """No name of an input or a step."""


class BadRule(RoundError):
    """No name of a rule."""


class NoStep(RoundError):
    """No name of a step."""


class NotLed(RoundError):
    """A rule and a step at which it cannot be used."""


class BadMaking(RoundError):
    """No making of programs."""


class ManyResults(RoundError):
    """How many results are not one."""


class BadLooks(RoundError):
    """No looks at the program."""


class BadNames(RoundError):
    """No names of this kind."""


class BadPrices(RoundError):
    """No prices of steps or names."""


class BadPrograms(RoundError):
    """No programs of one kind."""


class BadSeen(RoundError):
    """No inputs with answers."""


class NoWorth(RoundError):
    """An end of a mixed run that does not tell."""


class BadStages(RoundError):
    """No stages of a filter."""


class BadFold(RoundError):
    """A program that is no fold."""


class BadStart(RoundError):
    """No start of a fold."""


class BadParts(RoundError):
    """No parts of a fold."""


class BadStarts(RoundError):
    """No starts of a fold."""


class BadPart(RoundError):
    """No part of a fold."""


class BadLaps(RoundError):
    """No number of laps."""


class BadNumbers(RoundError):
    """No numbers to be added."""


class BadMany(RoundError):
    """No number of multiples."""


class TooGreat(RoundError):
    """The place of a number that is farther from 0 than it may be."""


class NoInput(RoundError):
    """No name of an input of the bench."""


class BadRange(RoundError):
    """No range that can stand there."""


class Full(RoundError):
    """How many looks or claims there are room for."""


class Wanted(RoundError):
    """The name of a step that is still asked for."""


class BadTold(RoundError):
    """No names that can be told."""


class NoClaim(RoundError):
    """The number of no claim of the bench."""


class NothingToUndo(RoundError):
    """No deed stands."""


class NothingToRedo(RoundError):
    """No deed was taken back."""


class NoTrial(RoundError):
    """No trial is under way."""


class BadJournal(RoundError):
    """The line of a text that is no journal."""
