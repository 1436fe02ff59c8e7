"""Cuttings of polygons into triangles: their webs, flips, lengths and ways."""

from itertools import combinations

from dartwebs.checks import MOST_NODES, check_node, check_shares, is_whole
from dartwebs.errors import BadCutting, NoCorner
from dartwebs.shares import lowest


def web_of_cutting(cutting):
    """Give the web whose nodes are the lines of the cutting, in their order."""
    _check_cutting(cutting)
    nodes = {line: x for x, line in enumerate(cutting)}
    table = [[0] * len(cutting) for _ in cutting]
    for a, b, c in _triangles_of(cutting):
        for line, following in (((a, b), (b, c)), ((b, c), (a, c)), ((a, c), (a, b))):
            if line in nodes and following in nodes:
                table[nodes[line]][nodes[following]] = 1
                table[nodes[following]][nodes[line]] = -1
    return tuple([tuple(row) for row in table])


def _check_cutting(cutting):
    """Raise BadCutting for what is no cutting of a polygon."""
    if not isinstance(cutting, tuple) or not 1 <= len(cutting) <= MOST_NODES:
        raise BadCutting()
    if not all([_is_line(_corners_of(cutting), line) for line in cutting]):
        raise BadCutting()
    lines = list(cutting)
    for one, other in combinations(lines, 2):
        if one == other or _cross(one, other):
            raise BadCutting()


def _corners_of(cutting):
    """Tell how many corners the polygon has that so many lines cut into triangles."""
    return len(cutting) + 3


def _is_line(corners, value):
    """Tell whether the value is an ascending pair of corners that are no neighbours."""
    if not isinstance(value, tuple) or len(value) != 2:
        return False
    a, b = value
    if not is_whole(a, 0, corners - 1) or not is_whole(b, 0, corners - 1):
        return False
    return a < b and not _are_neighbours(corners, a, b)


def _are_neighbours(corners, a, b):
    """Tell whether two corners, the lesser one first, are neighbours."""
    return b - a in (1, corners - 1)


def _cross(one, other):
    """Tell whether two lines cross."""
    (a, b), (c, d) = one, other
    return a < c < b < d or c < a < d < b


def _triangles_of(cutting):
    """Give the triples of corners of the triangles of the cutting."""
    sides = _sides_of(cutting, ((1, 1),) * len(cutting))
    triples = list(combinations(range(_corners_of(cutting)), 3))
    return [(a, b, c) for a, b, c in triples if (a, b) in sides and (b, c) in sides and (a, c) in sides]


def _sides_of(cutting, shares):
    """Give the dict of the lengths of the sides of all triangles, the shares those of the lines."""
    corners = _corners_of(cutting)
    pairs = list(combinations(range(corners), 2))
    sides = {(a, b): (1, 1) for a, b in pairs if _are_neighbours(corners, a, b)}
    for line, share in zip(cutting, shares):
        sides[line] = share
    return sides


def flipped(cutting, x):
    """Give the cutting with the other line of the piece with four sides in which the line x lies."""
    _check_cutting(cutting)
    check_node(len(cutting), x)
    a, b = cutting[x]
    beside = [triple for triple in _triangles_of(cutting) if a in triple and b in triple]
    ends = sorted([corner for triple in beside for corner in triple if corner not in (a, b)])
    return cutting[:x] + (tuple(ends),) + cutting[x + 1:]


def lengths(cutting, shares):
    """Give the dict of the lengths of all pairs of corners, the shares those of the lines."""
    _check_cutting(cutting)
    check_shares(len(cutting), shares)
    corners = _corners_of(cutting)
    found = {}
    for a in range(corners):
        known = _lengths_from(cutting, shares, a)
        for b in range(a + 1, corners):
            found[(a, b)] = known[b]
    return found


def _lengths_from(cutting, shares, a):
    """Give the dict of the lengths from the corner a to each corner."""
    sides = _sides_of(cutting, shares)
    known = {a: (0, 1)}
    for (b, c), share in sides.items():
        if a in (b, c):
            known[b + c - a] = share
    triangles = _triangles_of(cutting)
    while len(known) < _corners_of(cutting):
        for triple in triangles:
            ahead = [corner for corner in triple if corner in known]
            beyond = [corner for corner in triple if corner not in known]
            # The side of which both ends are known lies between a and the third corner.
            if len(beyond) == 1:
                known[beyond[0]] = _length_beyond(sides, known, ahead, beyond[0])
    return known


def _length_beyond(sides, known, ahead, d):
    """Give the length to d, which lies beyond the line between the two corners ahead."""
    b, c = ahead
    top, bottom = _share_of_both(known[b], sides[(min(c, d), max(c, d))], known[c], sides[(min(b, d), max(b, d))])
    between, below = sides[(b, c)]
    return lowest(top * below, bottom * between)


def _share_of_both(one, other, third, last):
    """Give the product of the first two shares plus that of the last two, in any terms."""
    top = one[0] * other[0] * third[1] * last[1] + third[0] * last[0] * one[1] * other[1]
    return top, one[1] * other[1] * third[1] * last[1]


def ways(cutting, a, b):
    """Tell in how many ways the corners between two corners can take unlike triangles that have them."""
    _check_cutting(cutting)
    for corner in (a, b):
        if not is_whole(corner, 0, _corners_of(cutting) - 1):
            raise NoCorner()
    # It's the length between them if all lines have the length 1.
    top, _ = _lengths_from(cutting, ((1, 1),) * len(cutting), a)[b]
    return top
