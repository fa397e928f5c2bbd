"""The errors of the program. Each one keeps what was wrong in its attributes."""


class HuefallError(ValueError):
    """The base class of all errors of the program."""


class InvalidHouse(HuefallError):
    """A part of a house or of a shape is not valid."""

    def __init__(self, part, index):
        self.part = part
        self.index = index


class InvalidLamp(HuefallError):
    """A value is not a lamp of the house."""

    def __init__(self, lamp):
        self.lamp = lamp


class InvalidState(HuefallError):
    """A value is not a state of the house."""

    def __init__(self, state):
        self.state = state


class InvalidTally(HuefallError):
    """The counts are not those of a tally, or do not suit the house or the call."""

    def __init__(self, counts):
        self.counts = counts


class InvalidNumber(HuefallError):
    """A number is not in the range that the call allows."""

    def __init__(self, number):
        self.number = number


class InvalidText(HuefallError):
    """A line of a text is not right."""

    def __init__(self, line):
        self.line = line


class InvalidGlimpse(HuefallError):
    """A value is not a glimpse."""

    def __init__(self, glimpse):
        self.glimpse = glimpse


class InvalidLine(HuefallError):
    """A value is not a line of a story."""

    def __init__(self, entry):
        self.entry = entry


class InvalidEntry(HuefallError):
    """An entry of a log is not valid."""

    def __init__(self, index):
        self.index = index


class InvalidMode(HuefallError):
    """A word is not a mode of a desk."""

    def __init__(self, word):
        self.word = word


class InvalidFact(HuefallError):
    """A value is not a fact."""

    def __init__(self, fact):
        self.fact = fact


class RefusedMove(HuefallError):
    """A move is refused."""

    def __init__(self, lamp, step):
        self.lamp = lamp
        self.step = step


class DarkLamp(RefusedMove):
    """A move is refused because its lamp is dark."""

    def __init__(self, lamp, step):
        RefusedMove.__init__(self, lamp, step)


class LitBeneath(RefusedMove):
    """A careful move is refused because a lamp beneath its lamp is lit."""

    def __init__(self, lamp, step, lower):
        RefusedMove.__init__(self, lamp, step)
        self.lower = lower


class NotReachable(HuefallError):
    """A state is not reachable from another one."""

    def __init__(self, lamp):
        self.lamp = lamp


class WrongLength(HuefallError):
    """No run has the length."""

    def __init__(self, length, reason):
        self.length = length
        self.reason = reason


class TooLong(HuefallError):
    """A run has more moves than the limit allows."""

    def __init__(self, length):
        self.length = length


class TooMany(HuefallError):
    """There are more results than the limit allows."""

    def __init__(self, count):
        self.count = count


class NoHistory(HuefallError):
    """No state is possible any more, so there is no history."""

    def __init__(self, index):
        self.index = index


class NothingToUndo(HuefallError):
    """No move can be taken back."""


class NothingToRedo(HuefallError):
    """No move can be made again."""


class NoGoal(HuefallError):
    """There is no goal."""
