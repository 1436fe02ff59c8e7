"""Webs of named shapes, and what tells of them by counting alone."""

import itertools

from dartwebs.webs import renamed, turned, web_of


def pair(many):
    return ((0, many), (-many, 0))


def zeros(n):
    return ((0,) * n,) * n


def path(n):
    return web_of(n, tuple((x, x + 1, 1) for x in range(n - 1)))


def ring(n, ways=None):
    """A ring of n nodes; ways tells which of its arrows go round, all of them if it is None."""
    arrows = [(x, (x + 1) % n, 1) for x in range(n)]
    if ways is not None:
        arrows = [arrow if way else (arrow[1], arrow[0], 1) for arrow, way in zip(arrows, ways)]
    return web_of(n, tuple(arrows))


def fork(n):
    """The tree of kind D with n nodes."""
    return web_of(n, tuple((x, x + 1, 1) for x in range(n - 2)) + ((n - 3, n - 1, 1),))


def star(n):
    return web_of(n, tuple((0, x, 1) for x in range(1, n)))


E_TREE = web_of(6, ((0, 1, 1), (1, 2, 1), (2, 3, 1), (3, 4, 1), (2, 5, 1)))

TREES = {f"A{n}": path(n) for n in range(1, 7)}
TREES.update({f"D{n}": fork(n) for n in range(4, 7)})
TREES["E6"] = E_TREE

# Trees of at most six nodes that are of no kind A, D, E.
OTHER_TREES = (
    star(5),
    star(6),
    web_of(6, ((0, 1, 1), (0, 2, 1), (0, 3, 1), (0, 4, 1), (4, 5, 1))),
    web_of(6, ((0, 2, 1), (1, 2, 1), (2, 3, 1), (3, 4, 1), (3, 5, 1))),
)

# How many webs, but for names, are in the class of a tree of each kind.
CLASS_SIZES = {"A1": 1, "A2": 1, "A3": 4, "A4": 6, "A5": 19, "A6": 49, "D4": 6, "D5": 26, "D6": 80, "E6": 67}

ROOT_COUNTS = {"A1": 1, "A2": 3, "A3": 6, "A4": 10, "A5": 15, "A6": 21, "D4": 12, "D5": 20, "D6": 30, "E6": 36}

LOT_COUNTS = {"A1": 2, "A2": 5, "A3": 14, "A4": 42, "A5": 132, "A6": 429, "D4": 50, "D5": 182, "D6": 672, "E6": 833}


def beside(*webs):
    """The web whose parts are these, one behind another."""
    n = sum(len(web) for web in webs)
    table = [[0] * n for _ in range(n)]
    at = 0
    for web in webs:
        for y, z in itertools.product(range(len(web)), repeat=2):
            table[at + y][at + z] = web[y][z]
        at += len(web)
    return tuple(map(tuple, table))


def webs_of_parts():
    """Pairs of the kinds and the web, for all webs of several trees of kind A, D, E with at most six nodes."""
    for many in range(2, 7):
        for kinds in itertools.combinations_with_replacement(sorted(TREES), many):
            if sum(len(TREES[kind]) for kind in kinds) <= 6:
                yield kinds, beside(*(TREES[kind] for kind in kinds))


def with_ways(chance, web):
    """The same web with each number of arrows one way or the other."""
    n = len(web)
    table = [list(line) for line in web]
    for y, z in itertools.combinations(range(n), 2):
        if chance.random() < 0.5:
            table[y][z], table[z][y] = table[z][y], table[y][z]
    return tuple(map(tuple, table))


def with_names(chance, web):
    order = list(range(len(web)))
    chance.shuffle(order)
    return renamed(web, tuple(order))


def behind_turns(chance, web, many):
    for _ in range(many):
        web = turned(web, chance.randrange(len(web)))
    return web
