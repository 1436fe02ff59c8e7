"""All lots and all numbers that come of a web of a finite class, and turns at two nodes by turns."""

from dartwebs.checks import check_node
from dartwebs.errors import Alike, TooMany
from dartwebs.lots import first_lot, next_lot
from dartwebs.roots import lots_count
from dartwebs.webs import check_web, web_behind

MOST_LOTS = 150


def all_lots(web):
    """Give the ascending tuple of all lots that come, each as the ascending tuple of its sums."""
    if lots_count(web) > MOST_LOTS:
        raise TooMany(MOST_LOTS)
    return _lots_of(web)


def _lots_of(web):
    """Give the ascending tuple of all lots that come of a web of a finite class."""
    lot = first_lot(len(web))
    seen = {tuple(sorted(lot)): True}
    waiting = [(web, lot)]
    while waiting:
        web, lot = waiting.pop()
        for x in range(len(web)):
            behind = next_lot(web, lot, x)
            # The web beside a lot is the same, but for names, whatever way leads there.
            key = tuple(sorted(behind))
            if key not in seen:
                seen[key] = True
                waiting.append((web_behind(web, x), behind))
    return tuple(sorted(seen))


def all_numbers(web):
    """Give the ascending tuple of all sums in the lots that come."""
    if lots_count(web) > MOST_LOTS:
        raise TooMany(MOST_LOTS)
    return tuple(sorted(set([told for lot in _lots_of(web) for told in lot])))


def round_of(web, x, y):
    """Tell how many turns at x and y, by turns, bring back the sums of the first lot; None if none do.

    Turns at two nodes look at no arrows but those between the two to tell whether the sums come back.
    """
    check_web(web)
    check_node(len(web), x)
    check_node(len(web), y)
    if x == y:
        raise Alike()
    many = abs(web[x][y])
    return 4 + many if many < 2 else None
