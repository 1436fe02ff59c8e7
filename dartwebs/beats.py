"""Beats of trees, and rows of numbers of steady webs."""

from dartwebs.checks import check_shares, is_whole
from dartwebs.classing import kind_of_tree
from dartwebs.errors import BadTimes, NotSteady, NoTree, TooGreat
from dartwebs.lots import numbers, share_behind
from dartwebs.webs import check_web, renamed, web_behind

MOST_BEATS = 40
MOST_OF_ROW = 60
BEATS_OF_E6 = 14


def sides(web):
    """Give the pair of the nodes at an even and of those at an odd distance from the node 0."""
    _kind_of(web)
    return _sides_of(web)


def _kind_of(web):
    """Give the kind of a tree of kind A, D or E with two nodes or more."""
    check_web(web)
    told = kind_of_tree(web)
    if told is None or len(web) < 2:
        raise NoTree()
    return told


def _sides_of(web):
    """Give the sides of a tree."""
    n = len(web)
    far = {0: 0}
    waiting = [0]
    while waiting:
        y = waiting.pop()
        for z in range(n):
            if web[y][z] != 0 and z not in far:
                far[z] = far[y] + 1
                waiting.append(z)
    first = tuple([x for x in range(n) if far[x] % 2 == 0])
    return first, tuple([x for x in range(n) if far[x] % 2 == 1])


def beats(web, many):
    """Give the lot behind so many beats."""
    _kind_of(web)
    if not is_whole(many, 0, MOST_BEATS):
        raise BadTimes()
    first, second = _sides_of(web)
    # All arrows go from the first side to the second.
    table = tuple([tuple([abs(entry) if y in first else -abs(entry) for entry in line]) for y, line in enumerate(web)])
    row = (first + second) * (many // 2) + first * (many % 2)
    return numbers(table, row)


def beat(web):
    """Tell behind how many beats the lot's sums are, in any order, the first names again."""
    told = _kind_of(web)
    if told[0] == "A":
        return len(web) + 3
    return 2 * len(web) if told[0] == "D" else BEATS_OF_E6


def is_steady(web):
    """Tell whether a turn at the node 0 leaves the web as it is but for names, each one less."""
    check_web(web)
    n = len(web)
    try:
        behind = web_behind(web, 0)
    except TooGreat:
        return False
    return renamed(behind, tuple([(x - 1) % n for x in range(n)])) == web


def steady_row(web, shares, many):
    """Give the first so many numbers of the row that begins with the shares."""
    if not is_steady(web):
        raise NotSteady()
    n = len(web)
    check_shares(n, shares)
    if not is_whole(many, 0, MOST_OF_ROW):
        raise BadTimes()
    row = list(shares)
    while len(row) < many:
        row.append(share_behind(web, tuple(row[len(row) - n:]), 0))
    return tuple(row[:many])
