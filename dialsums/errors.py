"""The errors: DialError, and directly below it all others."""


class DialError(ValueError):
    """Keeps what was refused, or what is told of it, as its value."""

    def __init__(self, value):
        self.value = value


class BadParts(DialError):
    """The value is no tuple of parts of a Sum."""


class BadNumber(DialError):
    """The value is no number as it is asked for."""


class BadText(DialError):
    """The value is no text of a Sum, or of a set of dials."""


class BadName(DialError):
    """The value is no name."""


class BadValues(DialError):
    """The value is no dict with a number for each name of a Sum."""


class BadDial(DialError):
    """The value is no dial within the bounds."""


class BadSum(DialError):
    """The value is no Sum as it is asked for."""


class BadWhole(DialError):
    """The value is no whole of a set of dials."""


class BadShares(DialError):
    """The value is no tuple of shares of a whole."""


class BadOthers(DialError):
    """The value is no tuple of dials that stand apart."""


class TooGreat(DialError):
    """What comes is greater than the value."""


class BadRows(DialError):
    """The value is no tuple of rows."""


class BadSums(DialError):
    """The value is no tuple of goals."""


class BadPlan(DialError):
    """The value is the number of the first wrong line of a plan."""


class NoNote(DialError):
    """The value is no note that is there to be named."""


class NoPerson(DialError):
    """The value is none of the people."""


class BadPeople(DialError):
    """The value is no tuple of people as it is asked for."""


class BadBy(DialError):
    """The value does not tell whether people saw or have notes."""


class NoLine(DialError):
    """The value is no number of a line."""


class BadLine(DialError):
    """The value is no line that can stand there."""


class Needed(DialError):
    """The value is the number of a line without which the rest is no plan."""


class BadNumbers(DialError):
    """The value is no tuple of numbers for what is owned and drawn."""


class BadFew(DialError):
    """The value is no number of people as it is asked for."""


class Unlike(DialError):
    """The value is no plan of the same people with the same own numbers."""


class BadSeen(DialError):
    """The value is no tuple of notes seen."""


class NoFit(DialError):
    """The value is a dial on which no numbers fit."""


class BadOffers(DialError):
    """The value is no tuple of offers."""


class BadWishes(DialError):
    """The value is no tuple of wishes."""


class BadRounds(DialError):
    """The value is the number of the first wrong line of rounds."""


class BadLooks(DialError):
    """The value is no tuple of looks."""


class BadWord(DialError):
    """The value is no word for what is asked."""


class TooMany(DialError):
    """More knowledges come than the value tells."""


class BadNote(DialError):
    """The value is no new name for a note."""


class Full(DialError):
    """The value is the line of a deed for which there is no place left."""


class NothingToUndo(DialError):
    """No deed stands that could be taken back."""


class NothingToRedo(DialError):
    """No deed was taken back that could be done again."""


class NoTrial(DialError):
    """No trial is on that could be kept."""


class BadJournal(DialError):
    """The value is the number of the first wrong line of a journal."""


class BadDesk(DialError):
    """The value is no text of a desk."""


class BadSay(DialError):
    """The value is no line that a desk takes."""
