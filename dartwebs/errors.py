"""The errors of the package, all of them direct subclasses of WebError."""


class WebError(ValueError):
    """The base class of all errors of the package."""


class BadWeb(WebError):
    """The value is no web."""


class NoNode(WebError):
    """The value is no node of the web."""


class BadCount(WebError):
    """The value is no number of nodes or names, an integer from 1 to 6."""


class BadArrows(WebError):
    """The value is no tuple of arrows for a web."""


class TooGreat(WebError):
    """A number passes its bound."""


class BadRow(WebError):
    """The value is no row of at most 200 nodes."""


class BadOrder(WebError):
    """The value is no tuple of all nodes, each once."""


class NotText(WebError):
    """The value is no text."""


class InvalidText(WebError):
    """The text cannot go on, or end, at the index place."""

    def __init__(self, place):
        self.place = place


class Twice(WebError):
    """The name is told a second time."""

    def __init__(self, name):
        self.name = name


class Unknown(WebError):
    """The name isn't told in full ahead of its use."""

    def __init__(self, name):
        self.name = name


class NoSuchNode(WebError):
    """The number in a row text is no node."""

    def __init__(self, value):
        self.value = value


class TooLong(WebError):
    """Something is longer than the most that may be."""

    def __init__(self, most):
        self.most = most


class BadSum(WebError):
    """The value is no sum."""


class ByNought(WebError):
    """The sum is to be divided by nought."""


class NotEven(WebError):
    """No sum comes of the division."""


class BadShares(WebError):
    """The value is no tuple of shares, one for each name."""


class BadLot(WebError):
    """The value is no lot of the web."""


class NotFinite(WebError):
    """The class of the web isn't finite."""


class NotTrees(WebError):
    """Some part of the web is no tree of kind A, D or E."""


class TooMany(WebError):
    """There are more lots than the most that may be."""

    def __init__(self, most):
        self.most = most


class Alike(WebError):
    """The two nodes are one."""


class BadCutting(WebError):
    """The value is no cutting of a polygon."""


class NoCorner(WebError):
    """The value is no corner of the polygon."""


class NothingDone(WebError):
    """There is no turn to take back."""


class InvalidDesk(WebError):
    """The line with the index at cannot stand there in the text of a desk."""

    def __init__(self, at):
        self.at = at


class NoTree(WebError):
    """The web is no tree of kind A, D or E with two nodes or more."""


class NotSteady(WebError):
    """The web isn't steady."""


class BadTimes(WebError):
    """The value is no number of times within its bounds."""
