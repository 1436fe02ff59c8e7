"""Frames beside webs, degrees and inner sums, and the lots that are told by these alone."""

from dartwebs.checks import check_row
from dartwebs.division import bounded, quotient_of
from dartwebs.errors import TooGreat
from dartwebs.lots import sum_of_products
from dartwebs.webs import MOST_ARROWS, check_web, web_behind

MOST_GREEN_TURNS = 6


def frame(web, row):
    """Give the pair of the web and the frame behind the row of turns."""
    check_web(web)
    check_row(len(web), row)
    return _frames_along(web, row)[-1]


def greens(web, row):
    """Give the ascending tuple of the nodes that are green behind the row of turns."""
    check_web(web)
    check_row(len(web), row)
    return greens_behind(web, row)


def greens_behind(web, row):
    """Give the nodes that are green behind the row of turns, for a web and a row of its nodes."""
    _, table = _frames_along(web, row)[-1]
    return _greens_of(table)


def _first_table(n):
    """Give the table with 1 where a row and a column have the same number, else 0."""
    return tuple([tuple([1 if x == i else 0 for x in range(n)]) for i in range(n)])


def _frames_along(web, row):
    """Give the list of the pairs of the web and the frame ahead of each turn, and behind the last one."""
    found = [(web, _first_table(len(web)))]
    for x in row:
        web, table = found[-1]
        found.append(_framed(web, table, x))
    return found


def _framed(web, table, x):
    """Give the pair of the web and the frame behind a turn at x."""
    behind = tuple([tuple([_entry_behind(web, line, x, z) for z in range(len(web))]) for line in table])
    return web_behind(web, x), _small(behind)


def _entry_behind(web, line, x, z):
    """Give the entry at z, behind a turn at x, of a line of the frame."""
    if z == x:
        return -line[x]
    return line[z] + (abs(line[x]) * web[x][z] + line[x] * abs(web[x][z])) // 2


def _small(table):
    """Give the table, none of whose entries may be beyond the bound."""
    if not all([abs(entry) <= MOST_ARROWS for line in table for entry in line]):
        raise TooGreat()
    return table


def _greens_of(table):
    """Give the ascending tuple of the nodes whose columns have no entry below 0."""
    return tuple([x for x in range(len(table)) if min([line[x] for line in table]) >= 0])


def green_row(web):
    """Give the least of the rows of fewest green turns behind which all nodes are red, or None."""
    check_web(web)
    level = [((), web, _first_table(len(web)))]
    while level:
        found = []
        for state in level:
            found.extend(_behind_green_turns(state))
        for row, _, table in found:
            if not _greens_of(table):
                return row
        level = found
    return None


def _behind_green_turns(state):
    """Give what is behind each green turn, with its row, if all nodes can still become red."""
    row, web, table = state
    found = []
    for x in _greens_of(table):
        try:
            behind, other = _framed(web, table, x)
        except TooGreat:
            # Such a turn is left out.
            continue
        # A green turn brings no other green node to red, so each green node needs one of its own.
        if len(row) + 1 + len(_greens_of(other)) <= MOST_GREEN_TURNS:
            found.append((row + (x,), behind, other))
    return found


def degrees(web, row):
    """Give the table of the degrees behind the row of turns."""
    check_web(web)
    check_row(len(web), row)
    return _degrees_behind(web, row)


def _degrees_behind(first, row):
    """Give the table of the degrees behind the row of turns, for the first web."""
    told = _first_table(len(first))
    for x, (web, table) in zip(row, _frames_along(first, row)):
        lines = [_degrees_line(web, table, line, first_line, x) for line, first_line in zip(told, first)]
        told = _small(tuple(lines))
    return told


def _degrees_line(web, table, line, first_line, x):
    """Give a line of the degrees behind a turn at x, with the same line of the first web."""
    n = len(web)
    there = sum([web[z][x] * line[z] for z in range(n) if web[z][x] > 0])
    back = sum([table[j][x] * first_line[j] for j in range(n) if table[j][x] > 0])
    return line[:x] + (there - back - line[x],) + line[x + 1:]


def inners(web, row):
    """Give the tuple of the inner sums behind the row of turns."""
    check_web(web)
    check_row(len(web), row)
    return _inners_behind(web, row)


def _inners_behind(first, row):
    """Give the tuple of the inner sums behind the row of turns, for the first web."""
    n = len(first)
    told = ((((0,) * n, 1),),) * n
    # A frame that is too great anywhere along the row is told ahead of the sums.
    for x, (web, table) in zip(row, _frames_along(first, row)):
        column = [line[x] for line in table]
        there = ((tuple([max(0, power) for power in column]), 1),)
        back = ((tuple([max(0, -power) for power in column]), 1),)
        inner = quotient_of(n, sum_of_products(web, told, x, there, back), told[x])
        told = told[:x] + (inner,) + told[x + 1:]
    return told


def by_frames(web, row):
    """Give the lot behind the row of turns, reckoned by the frame, the degrees and the inner sums."""
    check_web(web)
    check_row(len(web), row)
    told = _degrees_behind(web, row)
    inner_sums = _inners_behind(web, row)
    return tuple([_number_of(web, [line[x] for line in told], inner_sums[x]) for x in range(len(web))])


def _number_of(web, column, inner):
    """Give the number with these degrees and this inner sum, for the first web."""
    table = {}
    for powers, many in inner:
        exponents = [degree + sum([line[j] * power for j, power in enumerate(powers)])
                     for line, degree in zip(web, column)]
        table[tuple(exponents)] = table.get(tuple(exponents), 0) + many
    # All coefficients are above 0, so that none cancel.
    return bounded(tuple(sorted(table.items())))
