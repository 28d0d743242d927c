"""The errors that the package raises: each keeps what it tells as `value`."""


class UseError(ValueError):
    """The error above all others of the package."""

    def __init__(self, value):
        self.value = value


class NoProgram(UseError):
    """What was handed in as a program is none."""


class BadProgram(UseError):
    """The number of the line at which a text is no program's; 0 for what is no string."""


class BadPlace(UseError):
    """What is no PLACE of the program."""


class BadWay(UseError):
    """What is no WAY of the program."""


class NoPart(UseError):
    """What is not the name of a part."""


class BadMost(UseError):
    """What is no bound on the steps of a run."""


class BadMany(UseError):
    """What is no number of steps that there are."""


class NotEnded(UseError):
    """The number of steps behind which a run has not ended."""


class StuckAt(UseError):
    """The PLACE at which a run is stuck."""


class Ended(UseError):
    """The END of a run that has ended."""


class BadTable(UseError):
    """What is no TABLE."""


class BadUse(UseError):
    """What is no use of the table."""


class BadUses(UseError):
    """What is no tuple of uses of the table."""


class BadLooks(UseError):
    """What are no LOOKS of the table."""


class Unlike(UseError):
    """LOOKS that have no sum, or that a use does not hold."""


class BadText(UseError):
    """The number of the line at which a text is no table's; 0 for what is no string."""


class Wide(UseError):
    """The bound that something is wider than."""


class BadPaper(UseError):
    """What is no paper."""


class BadPlaces(UseError):
    """What is no tuple of binding PLACES as it is wanted."""


class BadPiece(UseError):
    """What is no PIECE."""


class Quarrel(UseError):
    """The name and CALL for which there are unlike pieces."""


class OtherParts(UseError):
    """What has other parts."""


class NoPiece(UseError):
    """The name and CALL of which a book has no piece."""


class Lacks(UseError):
    """The name and CALL that a book lacks."""


class Ring(UseError):
    """The name and CALL that is met down from itself."""


class NotPlain(UseError):
    """A program that is not plain."""


class TooMany(UseError):
    """The bound on unlike asks."""


class Endless(UseError):
    """The ask that comes while it is itself being worked out."""


class NoAsk(UseError):
    """The name and numbers that are no ask that was worked out."""


class BadLine(UseError):
    """What is no line for the part."""


class OtherArity(UseError):
    """The part that has not as many arguments."""


class BadNumbers(UseError):
    """What are no numbers for tables of parts."""


class Alike(UseError):
    """The part that is alike."""


class Amid(UseError):
    """Lines are amid."""


class Watched(UseError):
    """The PLACE that is watched already."""


class NotWatched(UseError):
    """The PLACE that is not watched."""


class NothingToUndo(UseError):
    """There is no deed to take back."""


class NothingToRedo(UseError):
    """There is no deed to do again."""


class NoBlock(UseError):
    """There is no block."""


class BadJournal(UseError):
    """The number of the line at which a text is no journal; 0 for what is no string."""


class BadTask(UseError):
    """What is no line that a desk knows."""


class BadExpression(UseError):
    """What is no expression for the newest lines."""
