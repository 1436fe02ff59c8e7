"""Lots: a number at each node of a web, and what a turn makes of it."""

from dartwebs.checks import check_count, check_node, check_row, check_shares
from dartwebs.division import divided, quotient_of
from dartwebs.errors import BadLot, TooGreat
from dartwebs.shares import lowest
from dartwebs.sums import added, is_sum, multiplied
from dartwebs.webs import check_web, web_behind


def first_lot(n):
    """Give the lot of the names alone."""
    check_count(n)
    return tuple([((tuple([1 if y == x else 0 for y in range(n)]), 1),) for x in range(n)])


def lot_behind(web, lot, x):
    """Give the lot behind a turn at the node x."""
    check_web(web)
    n = len(web)
    _check_lot(n, lot)
    check_node(n, x)
    return _exchanged(lot, x, divided(n, _sum_of_products(web, lot, x), lot[x]))


def next_lot(web, lot, x):
    """Give the lot behind a turn at x, for a lot that comes of the first one."""
    # From the first lot on every division comes out: where too many pairs come, no rest is left.
    return _exchanged(lot, x, quotient_of(len(web), _sum_of_products(web, lot, x), lot[x]))


def _check_lot(n, lot):
    """Raise BadLot for what is no tuple of n sums, none of them nought."""
    if not isinstance(lot, tuple) or len(lot) != n:
        raise BadLot()
    if not all([is_sum(n, told) and told != () for told in lot]):
        raise BadLot()


def _exchanged(lot, x, number):
    """Give the lot with another number at the node x."""
    return lot[:x] + (number,) + lot[x + 1:]


def _sum_of_products(web, lot, x):
    """Give the product of the numbers that point to x plus that of those to which x points."""
    one = (((0,) * len(web), 1),)
    return sum_of_products(web, lot, x, one, one)


def sum_of_products(web, lot, x, there, back):
    """Give the first sum times the numbers that point to x plus the second times those to which x points."""
    n = len(web)
    one = (((0,) * n, 1),)
    for y in range(n):
        power = one
        for _ in range(abs(web[y][x])):
            power = multiplied(n, power, lot[y])
        if web[y][x] > 0:
            there = multiplied(n, there, power)
        elif web[y][x] < 0:
            back = multiplied(n, back, power)
    return added(n, there, back)


def numbers(web, row):
    """Give the lot behind the row of turns that begins with the first lot."""
    check_web(web)
    n = len(web)
    check_row(n, row)
    lot = first_lot(n)
    for x in row:
        lot = next_lot(web, lot, x)
        web = web_behind(web, x)
    return lot


def values(web, row, shares):
    """Give the numbers behind the row of turns if the first ones are the shares."""
    check_web(web)
    check_row(len(web), row)
    check_shares(len(web), shares)
    return _shares_behind(web, row, shares)


def wholes(web, row):
    """Give the numbers behind the row of turns if the first ones are all 1."""
    check_web(web)
    check_row(len(web), row)
    return tuple([top for top, _ in _shares_behind(web, row, ((1, 1),) * len(web))])


def _shares_behind(web, row, shares):
    """Give the shares behind the row of turns."""
    for x in row:
        shares = _exchanged(shares, x, share_behind(web, shares, x))
        web = web_behind(web, x)
    return shares


def share_behind(web, shares, x):
    """Give the share at x behind a turn there."""
    there = (1, 1)
    back = (1, 1)
    for y in range(len(web)):
        for _ in range(abs(web[y][x])):
            if web[y][x] > 0:
                there = _bounded_share(there[0] * shares[y][0], there[1] * shares[y][1])
            else:
                back = _bounded_share(back[0] * shares[y][0], back[1] * shares[y][1])
    top = there[0] * back[1] + back[0] * there[1]
    return _bounded_share(top * shares[x][1], there[1] * back[1] * shares[x][0])


def _bounded_share(top, bottom):
    """Give the share in lowest terms, which must not be beyond its bound."""
    share = lowest(top, bottom)
    if max(share) > (10 ** 60) ** 5:
        raise TooGreat()
    return share
