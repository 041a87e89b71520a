"""The errors of the package; each has its fields as attributes."""


class StreamError(ValueError):
    """What all errors of the package derive from."""


class BadValue(StreamError):
    """An argument is not as described."""

    def __init__(self, value):
        self.value = value


class NoDivisor(StreamError):
    """Nothing can be divided by 0."""


class AtNought(StreamError):
    """A quotient would have a pole at 0."""


class NotAText(StreamError):
    """A string is no text; at is the length of its longest right beginning."""

    def __init__(self, at):
        self.at = at


class NoGiver(StreamError):
    """A wire is taken, but not given."""

    def __init__(self, name):
        self.name = name


class TwoGivers(StreamError):
    """A wire is given twice."""

    def __init__(self, name):
        self.name = name


class Unknown(StreamError):
    """Nothing has this name."""

    def __init__(self, name):
        self.name = name


class Taken(StreamError):
    """Something else has this name already."""

    def __init__(self, name):
        self.name = name


class Apart(StreamError):
    """A wire does not hang together with the first one."""

    def __init__(self, name):
        self.name = name


class Within(StreamError):
    """A text calls itself."""

    def __init__(self, name):
        self.name = name


class Unpaced(StreamError):
    """The boxes up to this one cannot be paced."""

    def __init__(self, at):
        self.at = at


class TooMany(StreamError):
    """There are more than the most that are allowed."""

    def __init__(self, most):
        self.most = most


class StandsStill(StreamError):
    """A text does not live."""


class CannotStep(StreamError):
    """A box waits for items."""

    def __init__(self, box):
        self.box = box


class Unlike(StreamError):
    """Two things are not of one shape."""


class Singular(StreamError):
    """A matrix has no inverse."""


class NotSquare(StreamError):
    """A matrix is not square."""


class NotUndone(StreamError):
    """No machine undoes this one."""


class HasLoops(StreamError):
    """A machine is not loopless."""


class BadCode(StreamError):
    """An instruction of a code is wrong."""

    def __init__(self, at):
        self.at = at


class HasSource(StreamError):
    """A text with a source has no net."""

    def __init__(self, name):
        self.name = name


class NotOfNet(StreamError):
    """Streams are not part of a stream of the net."""


class NotDriven(StreamError):
    """These ends cannot be driven."""


class NotAFile(StreamError):
    """A string is no file; line and at tell where its longest right beginning ends."""

    def __init__(self, line, at):
        self.line = line
        self.at = at


class BadPromise(StreamError):
    """A string is no promise."""

    def __init__(self, promise):
        self.promise = promise


class Broken(StreamError):
    """A promise would not hold any more."""

    def __init__(self, promise, paper):
        self.promise = promise
        self.paper = paper


class NotMade(StreamError):
    """The promise has not been made."""

    def __init__(self, promise):
        self.promise = promise


class NothingToUndo(StreamError):
    """There is no deed to take back."""


class NothingToRedo(StreamError):
    """There is no deed to do again."""
