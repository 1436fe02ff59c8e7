"""Checks of arguments that several modules share."""

from math import gcd

from dartwebs.errors import BadCount, BadRow, BadShares, NoNode, NotText

MOST_NODES = 6
MOST_TURNS = 200
MOST_OF_SHARE = 1000000


def is_int(value):
    """Tell whether the value is an integer."""
    # For Python a bool is an int, here it never is an integer.
    return isinstance(value, int) and not isinstance(value, bool)


def is_whole(value, least, most):
    """Tell whether the value is an integer from least to most."""
    return is_int(value) and least <= value <= most


def is_node(n, value):
    """Tell whether the value is a node of a web of n nodes."""
    return is_whole(value, 0, n - 1)


def check_count(n):
    """Raise BadCount for what is no number of nodes."""
    if not is_whole(n, 1, MOST_NODES):
        raise BadCount()


def check_node(n, x):
    """Raise NoNode for what is no node of a web of n nodes."""
    if not is_node(n, x):
        raise NoNode()


def check_row(n, row):
    """Raise BadRow for what is no row of turns of a web of n nodes."""
    if not isinstance(row, tuple) or len(row) > MOST_TURNS:
        raise BadRow()
    if not all([is_node(n, x) for x in row]):
        raise BadRow()


def check_shares(n, shares):
    """Raise BadShares for what is no tuple of n shares above 0 with small tops and bottoms."""
    if not isinstance(shares, tuple) or len(shares) != n:
        raise BadShares()
    if not all([_is_small_share(share) for share in shares]):
        raise BadShares()


def _is_small_share(share):
    """Tell whether the value is a share above 0 with a small top and bottom."""
    if not isinstance(share, tuple) or len(share) != 2:
        return False
    top, bottom = share
    if not is_whole(top, 1, MOST_OF_SHARE) or not is_whole(bottom, 1, MOST_OF_SHARE):
        return False
    return gcd(top, bottom) == 1


def check_text(text):
    """Raise NotText for what is no text."""
    if not isinstance(text, str):
        raise NotText()
