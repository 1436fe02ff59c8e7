"""Classes of webs that come of one another by turns and renaming."""

from dartwebs.checks import check_row, is_int
from dartwebs.errors import BadRow, NotFinite
from dartwebs.webs import check_web, is_tree, parts, web_behind

CLOSED = "closed"
TWO = "two"


def least_named(web):
    """Give the least web that comes by renaming."""
    check_web(web)
    return _least(web)


def _least(web):
    """Give the least web that comes by renaming, for a web.

    The names are given out one by one. A way to do so is a list of cells of nodes: the first
    cells have one node each, in the order of the names; which names the nodes of a later cell
    get among them is still open, as what is told so far is alike for all of them.
    """
    ways = [[list(range(len(web)))]]
    lines = []
    for at in range(len(web)):
        tried = [_named(web, cells, at, x) for cells in ways for x in _unlike(web, cells[at])]
        line = min([told for told, _ in tried])
        ways = [cells for told, cells in tried if told == line]
        lines.append(line)
    return tuple(lines)


def _unlike(web, cell):
    """Give nodes of the cell, one of those that have the same arrows."""
    found = {web[x]: x for x in cell}
    return list(found.values())


def _named(web, cells, at, x):
    """Give the least row of numbers that x can have in the place at, and the cells behind that."""
    behind = []
    for place, cell in enumerate(cells):
        if place == at:
            behind.append([x])
        rest = [y for y in cell if y != x]
        for many in sorted(set([web[x][y] for y in rest])):
            behind.append([y for y in rest if web[x][y] == many])
    return tuple([web[x][y] for cell in behind for y in cell]), behind


def is_finite(web):
    """Tell whether no web of the class has two arrows from a node to another."""
    check_web(web)
    return None not in _kinds(web)


def _has_two(web):
    """Tell whether some number of arrows is 2 or more."""
    return max([max(line) for line in web]) > 1


def _kinds(web):
    """Give the list of the kinds of the parts, None for a part whose class isn't finite."""
    return [_kind_of_part(_part_of(web, part)) for part in parts(web)]


def _part_of(web, part):
    """Give the web of the nodes of the part alone."""
    return tuple([tuple([web[y][z] for z in part]) for y in part])


def _kind_of_part(web):
    """Give the kind of the trees in the class of a web that hangs together, None if it isn't finite.

    The class of each such web has a web with two arrows or, exactly if it is finite, a tree of
    kind A, D or E, so that the first of these to come tells which it is.
    """
    waiting = [_least(web)]
    seen = {waiting[0]: True}
    while waiting:
        found = []
        for one in waiting:
            if _has_two(one):
                return None
            kind_told = kind_of_tree(one)
            if kind_told is not None:
                return kind_told
            for behind in _webs_behind(one):
                if behind not in seen:
                    seen[behind] = True
                    found.append(behind)
        waiting = found
    return None


def _webs_behind(web):
    """Give the least named webs behind a turn at each node, for a web without two arrows anywhere."""
    return [_least(web_behind(web, x)) for x in range(len(web))]


def kind_of_tree(web):
    """Give the kind of a web that is a tree of kind A, D or E, None for other webs."""
    if not is_tree(web):
        return None
    n = len(web)
    near = [[z for z in range(n) if web[y][z] != 0] for y in range(n)]
    forks = [nodes for nodes in near if len(nodes) > 2]
    if not forks:
        return f"A{n}"
    if len(forks) > 1 or len(forks[0]) > 3:
        return None
    ends = len([z for z in forks[0] if len(near[z]) == 1])
    # With six nodes at most, one end leaves two ways of two nodes each, and none can't be.
    return f"D{n}" if ends > 1 else f"E{n}"


def are_trees(web):
    """Tell whether each part of the web is a tree of kind A, D or E."""
    return all([kind_of_tree(_part_of(web, part)) is not None for part in parts(web)])


def class_of(web):
    """Give the ascending tuple of the least named webs of a finite class."""
    check_web(web)
    if not is_finite(web):
        raise NotFinite()
    return _class_of(web)


def _class_of(web):
    """Give the ascending tuple of the least named webs of the class, for a web of a finite one."""
    waiting = [_least(web)]
    seen = {waiting[0]: True}
    while waiting:
        one = waiting.pop()
        for behind in _webs_behind(one):
            if behind not in seen:
                seen[behind] = True
                waiting.append(behind)
    return tuple(sorted(seen))


def paper(web):
    """Give the pair that shows whether the class is finite: its number of webs, or a row to two arrows."""
    check_web(web)
    if is_finite(web):
        return CLOSED, len(_class_of(web))
    rows = [_row_to_two(web, part) for part in parts(web) if _kind_of_part(_part_of(web, part)) is None]
    least = min([len(row) for row in rows])
    return TWO, min([row for row in rows if len(row) == least])


def _row_to_two(web, part):
    """Give the least of the rows of fewest turns behind which the part has two arrows somewhere."""
    start = _part_of(web, part)
    level = [((), start)]
    seen = {start: True}
    while True:
        for row, one in level:
            if _has_two(one):
                return row
        found = []
        for row, one in level:
            for place, x in enumerate(part):
                behind = web_behind(one, place)
                # What has come before came by a row that is shorter or less.
                if behind not in seen:
                    seen[behind] = True
                    found.append((row + (x,), behind))
        level = found


def judged(web, paper):
    """Tell whether the paper is such as for the web and tells the truth."""
    check_web(web)
    if not isinstance(paper, tuple) or len(paper) != 2:
        return False
    word, told = paper
    if word == CLOSED and is_int(told):
        return is_finite(web) and told == len(_class_of(web))
    return word == TWO and _leads_to_two(web, told)


def _leads_to_two(web, row):
    """Tell whether the value is a row behind which, or behind some beginning of it, there are two arrows."""
    try:
        check_row(len(web), row)
    except BadRow:
        return False
    for x in row:
        if _has_two(web):
            return True
        web = web_behind(web, x)
    return _has_two(web)


def kind(web):
    """Give the text of the kinds of the parts of a web of a finite class."""
    check_web(web)
    kinds = _kinds(web)
    if None in kinds:
        raise NotFinite()
    return " ".join(sorted(kinds))
