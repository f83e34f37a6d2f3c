"""The errors that the package raises."""


class BeatError(ValueError):
    """An argument that is not of the kind that is asked."""


class InvalidNet(BeatError):
    """No net, no lot of cells, or no outputs of one."""


class InvalidSheet(BeatError):
    """No sheet."""


class InvalidPlan(BeatError):
    """No plan, no rounds, or no deeds."""


class InvalidShape(BeatError):
    """No shape of a machine."""


class InvalidState(BeatError):
    """No state of what is asked."""


class InvalidInputs(BeatError):
    """No inputs of what is asked."""


class InvalidProgram(BeatError):
    """No program."""


class InvalidMemory(BeatError):
    """No memory."""


class InvalidLines(BeatError):
    """No near lines, or no lines of an assembly."""


class InvalidAsk(BeatError):
    """No ask."""


class InvalidChoice(BeatError):
    """No choice of the foe."""


class InvalidPaper(BeatError):
    """No paper, or no table."""


class InvalidOperation(BeatError):
    """Something else that is not of the kind that is asked."""


class ParseError(BeatError):
    """A text that is wrong at a spot."""

    def __init__(self, spot):
        self.spot = spot


class InvalidNumber(IndexError):
    """A number that is none, or out of its bounds."""

    def __init__(self, given):
        self.given = given


class UnknownName(KeyError):
    """A name that is none of those that are known."""

    def __init__(self, asked):
        self.asked = asked


class NothingToUndo(LookupError):
    """Less was done than is to be taken back."""

    def __init__(self, wanted):
        self.wanted = wanted


class TooMany(OverflowError):
    """More than a limit allows."""

    def __init__(self, limit):
        self.limit = limit


class Refused(ArithmeticError):
    """Something that is well formed and still cannot be done."""

    def __init__(self, reason):
        self.reason = reason
