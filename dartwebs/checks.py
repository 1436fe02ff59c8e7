"""Checks of arguments that several modules share."""

from dartwebs.errors import BadCount, BadRow, NoNode, NotText

MOST_NODES = 6
MOST_TURNS = 200


def is_whole(value, least, most):
    """Tell whether the value is an integer from least to most."""
    # For Python a bool is an int, here it never is an integer.
    return isinstance(value, int) and not isinstance(value, bool) and least <= value <= most


def is_node(n, value):
    """Tell whether the value is a node of a web of n nodes."""
    return is_whole(value, 0, n - 1)


def check_count(n):
    """Raise BadCount for what is no number of nodes."""
    if not is_whole(n, 1, MOST_NODES):
        raise BadCount()


def check_node(n, x):
    """Raise NoNode for what is no node of a web of n nodes."""
    if not is_node(n, x):
        raise NoNode()


def check_row(n, row):
    """Raise BadRow for what is no row of turns of a web of n nodes."""
    if not isinstance(row, tuple) or len(row) > MOST_TURNS:
        raise BadRow()
    if not all([is_node(n, x) for x in row]):
        raise BadRow()


def check_text(text):
    """Raise NotText for what is no text."""
    if not isinstance(text, str):
        raise NotText()
