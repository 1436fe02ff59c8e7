"""Shares: the values of sums, in lowest terms."""

from math import gcd

from dartwebs.checks import check_shares
from dartwebs.sums import check_sum


def value(n, told, shares):
    """Give the value of the sum whose names are the shares."""
    check_sum(n, told)
    check_shares(n, shares)
    # One bottom for all pairs, as lowest terms at each step would take long.
    factors = []
    for name in range(n):
        factors.append(_factors_of(shares[name], [powers[name] for powers, _ in told]))
    top = 0
    for exponents, coefficient in told:
        top = top + _product_of(coefficient, factors, exponents)
    return lowest(top, _product_of(1, factors, (0,) * n))


def _factors_of(share, exponents):
    """Give the dict of the share's powers, for 0 and the exponents, each times one number.

    The number is such that all of them are whole, so that for 0 it is the bottom of the others.
    """
    top, bottom = share
    powers = sorted(set([0] + exponents))
    least, most = powers[0], powers[-1]
    return {power: _power_of(top, power - least) * _power_of(bottom, most - power) for power in powers}


def _power_of(number, many):
    """Give the product of so many times the number."""
    found = 1
    while many > 0:
        if many % 2 == 1:
            found = found * number
        number = number * number
        many = many // 2
    return found


def _product_of(number, factors, exponents):
    """Give the number times, for each name, the factor for its exponent."""
    for name, power in enumerate(exponents):
        number = number * factors[name][power]
    return number


def lowest(top, bottom):
    """Give the share of a top and a bottom from 1 on, in lowest terms."""
    common = gcd(top, bottom)
    return top // common, bottom // common
