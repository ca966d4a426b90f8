"""The refusals: every class tells its own name by the value word."""


class LineError(ValueError):
    """What was handed in, or asked for, is refused."""

    def __init__(self, word="LineError", text="refused"):
        ValueError.__init__(self, text)
        self.word = word


class BadBit(LineError):
    """The thing at this place of a list of bits is no bit."""

    def __init__(self, at):
        LineError.__init__(self, "BadBit", f"no bit at {at}")
        self.at = at


class BadByte(LineError):
    """The thing at this place of a list of bytes is no byte."""

    def __init__(self, at):
        LineError.__init__(self, "BadByte", f"no byte at {at}")
        self.at = at


class BadCode(LineError):
    """The number at this place of a list of numbers is no word's."""

    def __init__(self, at):
        LineError.__init__(self, "BadCode", f"no word's number at {at}")
        self.at = at


class BadFrame(LineError):
    """A row of bits is not of the form that is wanted, from this place on."""

    def __init__(self, at):
        LineError.__init__(self, "BadFrame", f"wrong form at {at}")
        self.at = at


class BadCount(LineError):
    """A number or a length is outside its bounds."""

    def __init__(self):
        LineError.__init__(self, "BadCount", "a number or a length outside its bounds")


class BadRate(LineError):
    """There is no such rate."""

    def __init__(self):
        LineError.__init__(self, "BadRate", "no such rate")


class BadTaps(LineError):
    """These are no shares of a wire."""

    def __init__(self):
        LineError.__init__(self, "BadTaps", "no shares of a wire")


class BadNoise(LineError):
    """There are not as many beats as are wanted."""

    def __init__(self):
        LineError.__init__(self, "BadNoise", "not as many beats as are wanted")


class TooLong(LineError):
    """A row is longer than the most that is allowed."""

    def __init__(self, most):
        LineError.__init__(self, "TooLong", f"more than {most}")
        self.most = most


class Full(LineError):
    """There is no room: the most that may wait is waiting."""

    def __init__(self, most):
        LineError.__init__(self, "Full", f"{most} or more are waiting")
        self.most = most


class NoRate(LineError):
    """The noise is too loud for every rate."""

    def __init__(self, loud):
        LineError.__init__(self, "NoRate", f"no rate for a loudness of {loud}")
        self.loud = loud


class NotOpen(LineError):
    """The pair is hung up."""

    def __init__(self):
        LineError.__init__(self, "NotOpen", "hung up")


class Away(LineError):
    """The end of this name has stepped out."""

    def __init__(self, name):
        LineError.__init__(self, "Away", f"{name} is away")
        self.name = name


class Missing(LookupError):
    """What was asked for by its name is not there."""

    def __init__(self, word="Missing", text="missing"):
        LookupError.__init__(self, text)
        self.word = word


class NoEnd(Missing):
    """There is no end of this name."""

    def __init__(self, name):
        Missing.__init__(self, "NoEnd", f"no end called {name}")
        self.name = name
