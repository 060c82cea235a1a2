"""The errors of the package: each keeps what it was made with."""


class BendError(ValueError):
    """Something that the package refuses."""


class InvalidBend(BendError):
    """What was told is no bend: `word` is the name of the first wrong argument."""

    def __init__(self, word):
        self.word = word


class InvalidText(BendError):
    """A text has not the form that is wanted."""

    def __init__(self, at):
        self.at = at


class InvalidTime(BendError):
    """A thing is no time that may stand here."""

    def __init__(self, time):
        self.time = time


class InvalidPieces(BendError):
    """Things are no pieces: `at` is the index of the first wrong one."""

    def __init__(self, at):
        self.at = at


class InvalidPoints(BendError):
    """Things are no times or points: `at` is the index of the first wrong one."""

    def __init__(self, at):
        self.at = at


class InvalidCommand(BendError):
    """A desk does not know the command."""

    def __init__(self):
        BendError.__init__(self)


class Unlike(BendError):
    """Curves do not go together."""

    def __init__(self):
        BendError.__init__(self)


class Kink(BendError):
    """A curve has no slope at a time, since those of both sides differ."""

    def __init__(self, time):
        self.time = time


class NoMark(BendError):
    """A thing is no inner mark."""

    def __init__(self, time):
        self.time = time


class Refused(BendError):
    """A live drawing does not take a pull."""

    def __init__(self, at):
        self.at = at
