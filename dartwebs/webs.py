"""Webs: numbers of arrows between nodes, and turns at the nodes."""

from dartwebs.checks import MOST_NODES, check_count, check_node, check_row, is_node, is_whole
from dartwebs.errors import BadArrows, BadOrder, BadWeb, TooGreat

MOST_ARROWS = 1000


def is_web(value):
    """Tell whether the value is a web."""
    if not isinstance(value, tuple) or not 1 <= len(value) <= MOST_NODES:
        return False
    n = len(value)
    if not all([_is_line(n, line) for line in value]):
        return False
    return all([value[y][z] == -value[z][y] for y in range(n) for z in range(n)])


def _is_line(n, line):
    """Tell whether the value is a tuple of n numbers of arrows."""
    if not isinstance(line, tuple) or len(line) != n:
        return False
    return all([is_whole(many, -MOST_ARROWS, MOST_ARROWS) for many in line])


def check_web(web):
    """Raise BadWeb for what is no web."""
    if not is_web(web):
        raise BadWeb()


def arrows(web):
    """Give the ascending triples (y, z, many) of the arrows from y to z."""
    check_web(web)
    n = len(web)
    return tuple([(y, z, web[y][z]) for y in range(n) for z in range(n) if web[y][z] > 0])


def web_of(n, triples):
    """Give the web of n nodes with just the arrows that the triples tell."""
    check_count(n)
    if not _are_arrows(n, triples):
        raise BadArrows()
    table = [[0] * n for _ in range(n)]
    for y, z, many in triples:
        table[y][z] = many
        table[z][y] = -many
    return tuple([tuple(line) for line in table])


def _are_arrows(n, triples):
    """Tell whether the value tells the arrows of a web of n nodes, no pair of nodes twice."""
    if not isinstance(triples, tuple) or not all([_is_arrow(n, triple) for triple in triples]):
        return False
    return len({(min(y, z), max(y, z)) for y, z, _ in triples}) == len(triples)


def _is_arrow(n, triple):
    """Tell whether the value is a triple (y, z, many) of unlike nodes and a number of arrows."""
    if not isinstance(triple, tuple) or len(triple) != 3:
        return False
    y, z, many = triple
    return is_node(n, y) and is_node(n, z) and y != z and is_whole(many, 1, MOST_ARROWS)


def turned(web, x):
    """Give the web behind a turn at the node x."""
    check_web(web)
    check_node(len(web), x)
    return web_behind(web, x)


def turned_all(web, row):
    """Give the web behind the turns at the nodes of the row, one behind another."""
    check_web(web)
    check_row(len(web), row)
    for x in row:
        web = web_behind(web, x)
    return web


def web_behind(web, x):
    """Give the web behind a turn at x, for a web and a node."""
    n = len(web)
    table = tuple([tuple([_many_behind(web, x, y, z) for z in range(n)]) for y in range(n)])
    if not all([abs(many) <= MOST_ARROWS for line in table for many in line]):
        raise TooGreat()
    return table


def _many_behind(web, x, y, z):
    """Give the number of arrows from y to z behind a turn at x."""
    if x in (y, z):
        return -web[y][z]
    there = max(0, web[y][x]) * max(0, web[x][z])
    back = max(0, web[z][x]) * max(0, web[x][y])
    return web[y][z] + there - back


def renamed(web, order):
    """Give the web in which the node x is called order[x]."""
    check_web(web)
    n = len(web)
    if not _is_order(n, order):
        raise BadOrder()
    old = [order.index(x) for x in range(n)]
    return tuple([tuple([web[y][z] for z in old]) for y in old])


def _is_order(n, order):
    """Tell whether the value is a tuple of all n nodes, each once."""
    if not isinstance(order, tuple) or len(order) != n:
        return False
    return all([is_node(n, x) for x in order]) and sorted(order) == list(range(n))


def parts(web):
    """Give the ascending tuples of nodes that hang together, by their least nodes."""
    check_web(web)
    found = []
    seen = []
    for x in range(len(web)):
        if x not in seen:
            part = _part_of(web, x)
            found.append(part)
            seen.extend(part)
    return tuple(found)


def _part_of(web, x):
    """Give the ascending tuple of the nodes that hang together with x."""
    part = [x]
    waiting = [x]
    while waiting:
        y = waiting.pop()
        for z in range(len(web)):
            if web[y][z] != 0 and z not in part:
                part.append(z)
                waiting.append(z)
    return tuple(sorted(part))


def is_tree(web):
    """Tell whether all nodes hang together by n - 1 arrows, no two between the same nodes."""
    check_web(web)
    n = len(web)
    told = arrows(web)
    return len(parts(web)) == 1 and len(told) == n - 1 and all([many == 1 for y, z, many in told])
