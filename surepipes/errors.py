"""The errors of the package: four families, and below each of them the errors that are raised."""


class PipeError(ValueError):
    """A value that was passed is not valid."""


class InvalidInteger(PipeError):
    """A value is no INTEGER, or a bottom is 0."""

    def __init__(self, value):
        self.value = value


class InvalidAmount(PipeError):
    """A value is no amount, or not one that can stand there."""

    def __init__(self, value):
        self.value = value


class InvalidPoints(PipeError):
    """The points of a curve are wrong: the position of the first wrong one, or None."""

    def __init__(self, position):
        self.position = position


class InvalidPipes(PipeError):
    """The pipes of a net are wrong: the name of the first wrong one, or None."""

    def __init__(self, name):
        self.name = name


class NotConnected(PipeError):
    """A node of a net cannot be reached from its first node."""

    def __init__(self, node):
        self.node = node


class InvalidDemands(PipeError):
    """Demands are wrong: the first wrong node, or None."""

    def __init__(self, node):
        self.node = node


class Unbalanced(PipeError):
    """The sum of the demands is not 0, but this total."""

    def __init__(self, total):
        self.total = total


class InvalidPoles(PipeError):
    """Poles are wrong: the first wrong key, or None."""

    def __init__(self, node):
        self.node = node


class InvalidConductances(PipeError):
    """Conductances are wrong: the first wrong pipe, or None."""

    def __init__(self, pipe):
        self.pipe = pipe


class InvalidCurves(PipeError):
    """The curves of the pipes are wrong: the first wrong pipe, or None."""

    def __init__(self, pipe):
        self.pipe = pipe


class InvalidFlows(PipeError):
    """Flows are wrong: the first wrong pipe, or None."""

    def __init__(self, pipe):
        self.pipe = pipe


class InvalidHeights(PipeError):
    """Heights are wrong: the first wrong node, or None."""

    def __init__(self, node):
        self.node = node


class InvalidLevels(PipeError):
    """The levels of an order are wrong: the position of the first wrong one, or None."""

    def __init__(self, position):
        self.position = position


class InvalidOrder(PipeError):
    """A value is no Order of exactly the nodes of the net."""

    def __init__(self, value):
        self.value = value


class InvalidWord(PipeError):
    """A value is none of the words that can stand there."""

    def __init__(self, value):
        self.value = value


class InvalidReading(PipeError):
    """Readings are wrong: the position of the first wrong one, or None."""

    def __init__(self, position):
        self.position = position


class InvalidStates(PipeError):
    """States are wrong: the position of the first wrong one, or None."""

    def __init__(self, position):
        self.position = position


class InvalidKinds(PipeError):
    """The kinds of the pipes are wrong: the first wrong pipe, or None."""

    def __init__(self, pipe):
        self.pipe = pipe


class InvalidPlace(PipeError):
    """A value is no tuple of the position of a state and two nodes."""

    def __init__(self, value):
        self.value = value


class InvalidText(PipeError):
    """A text is not what it should tell: the wrong line, or None if it is no string."""

    def __init__(self, line):
        self.line = line


class InvalidClaim(PipeError):
    """A value is no claim."""

    def __init__(self, value):
        self.value = value


class InvalidLine(PipeError):
    """A value is no line that a board answers."""

    def __init__(self, value):
        self.value = value


class MissingError(LookupError):
    """Something that was named is not there."""


class UnknownPipe(MissingError):
    """A value is no pipe of the net."""

    def __init__(self, value):
        self.value = value


class UnknownNode(MissingError):
    """A value is no node."""

    def __init__(self, value):
        self.value = value


class UnknownPole(MissingError):
    """A value is no pole."""

    def __init__(self, value):
        self.value = value


class UnknownKind(MissingError):
    """A value is no kind of a pipe."""

    def __init__(self, value):
        self.value = value


class UnknownReading(MissingError):
    """There is no reading for these two values, told as a tuple."""

    def __init__(self, value):
        self.value = value


class StateError(RuntimeError):
    """What is asked for cannot be told or done as things stand."""


class Barred(StateError):
    """The readings are barred, or the states do not fit together."""

    def __init__(self):
        pass


class IsBridge(StateError):
    """A pipe is a bridge."""

    def __init__(self, pipe):
        self.pipe = pipe


class NotSure(StateError):
    """The direction of a pipe, or of two nodes told as a tuple, is open."""

    def __init__(self, value):
        self.value = value


class NothingToUndo(StateError):
    """There is no change that can be taken back."""

    def __init__(self):
        pass


class LimitError(ArithmeticError):
    """A limit is passed."""


class TooMany(LimitError):
    """There is more of something than the limit."""

    def __init__(self, what, limit):
        self.what = what
        self.limit = limit
