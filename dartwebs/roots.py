"""Roots of trees of kind A, D or E, and how many numbers and lots come of the webs of their classes."""

from math import comb

from dartwebs.classing import are_trees, kind
from dartwebs.errors import NotTrees
from dartwebs.webs import check_web

ROOTS_OF_E6 = 36
LOTS_OF_E6 = 833


def roots(web):
    """Give the ascending tuple of the roots of a web each of whose parts is a tree of kind A, D or E."""
    check_web(web)
    if not are_trees(web):
        raise NotTrees()
    n = len(web)
    waiting = [tuple([1 if y == x else 0 for y in range(n)]) for x in range(n)]
    seen = {root: True for root in waiting}
    while waiting:
        root = waiting.pop()
        for x in range(n):
            other = _mirrored(web, root, x)
            if other not in seen:
                seen[other] = True
                waiting.append(other)
    return tuple(sorted([root for root in seen if min(root) >= 0]))


def _mirrored(web, root, x):
    """Give what comes if the x-th becomes the sum of those at x's neighbours less itself."""
    near = sum([root[y] for y in range(len(web)) if web[x][y] != 0])
    return root[:x] + (near - root[x],) + root[x + 1:]


def numbers_count(web):
    """Tell how many numbers come of a web of a finite class."""
    words = kind(web).split()
    return len(web) + sum([_roots_of_kind(word[0], int(word[1:])) for word in words])


def _roots_of_kind(letter, many):
    """Tell how many roots a tree of this kind and so many nodes has."""
    if letter == "A":
        return many * (many + 1) // 2
    return many * (many - 1) if letter == "D" else ROOTS_OF_E6


def lots_count(web):
    """Tell how many lots come of a web of a finite class."""
    found = 1
    for word in kind(web).split():
        found = found * _lots_of_kind(word[0], int(word[1:]))
    return found


def _lots_of_kind(letter, many):
    """Tell how many lots come of a tree of this kind and so many nodes."""
    if letter == "A":
        # So many ways there are to cut a polygon of many + 3 corners into triangles.
        return comb(2 * many + 2, many + 1) // (many + 2)
    return (3 * many - 2) * comb(2 * many - 2, many - 1) // many if letter == "D" else LOTS_OF_E6
