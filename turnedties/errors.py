"""The exceptions of the package.

The base classes get no message: they keep what they are made of, and a text of
the value is made only if somebody asks for it. A value may be anything, and
some values cannot be written as a text.
"""


class WebError(ValueError):
    """An argument is not of the kind that is required."""

    def __init__(self, value):
        self.value = value


class InvalidModulus(WebError):
    """The value is not a modulus, or not one that is allowed here."""


class InvalidSize(WebError):
    """The value is not the size of a web."""


class InvalidEdge(WebError):
    """The value is not an edge, or not a list or tuple of edges."""


class InvalidNode(WebError):
    """The value is not a node."""


class InvalidWalk(WebError):
    """The value is not a walk."""


class InvalidAmount(WebError):
    """The value is not an integer."""


class InvalidGains(WebError):
    """The value is not gains."""


class InvalidPotential(WebError):
    """The value is not a potential."""


class InvalidSwitch(WebError):
    """The value is not a switch, or not a list of switches."""


class InvalidFixed(WebError):
    """The value is not fixed nodes."""


class InvalidWeights(WebError):
    """The value is not weights."""


class InvalidPrices(WebError):
    """The value is not prices."""


class InvalidTarget(WebError):
    """The value is not a target."""


class InvalidEdges(WebError):
    """The value is not a list or tuple of different edge numbers."""


class InvalidMost(WebError):
    """The value is not a number of edges to leave out."""


class InvalidHands(WebError):
    """The value is not hands, or not hands that can do the work."""


class InvalidWebs(WebError):
    """The value is not webs with one size and one modulus."""


class InvalidOperation(WebError):
    """The value is not an operation, or not a list or tuple of operations."""


class InvalidText(WebError):
    """The value is the number of the first part of a text that is wrong."""


class InvalidCommand(WebError):
    """The value is not a line that a desk executes."""


class NoEdge(LookupError):
    """The value is not the number of an edge."""

    def __init__(self, value):
        self.value = value


class NoHand(LookupError):
    """The value is not the number of a hand, or not a list or tuple of them."""

    def __init__(self, value):
        self.value = value


class NoBoard(KeyError):
    """The value is a name under which no board is kept."""

    def __init__(self, value):
        self.value = value


class NothingToUndo(IndexError):
    """There is no operation that is not undone."""

    def __init__(self):
        IndexError.__init__(self)


class Unbalanced(RuntimeError):
    """The value is a closed walk of edges that cannot all be 0 at once."""

    def __init__(self, value):
        self.value = value


class Fixed(RuntimeError):
    """The value is a node that is fixed."""

    def __init__(self, value):
        self.value = value


class NotFixed(RuntimeError):
    """The value is a node that is not fixed."""

    def __init__(self, value):
        self.value = value


class Unreachable(RuntimeError):
    """The value shows that there is no potential."""

    def __init__(self, value):
        self.value = value


class TooMany(OverflowError):
    """The value is a count that is too great."""

    def __init__(self, value):
        self.value = value
