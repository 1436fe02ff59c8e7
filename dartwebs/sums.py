"""Sums of products of the names x0, x1, .. to whole powers, with whole coefficients."""

from heapq import heappop, heappush
from math import gcd

from dartwebs.checks import check_count, is_int, is_whole
from dartwebs.errors import BadSum, ByNought, NotEven, TooGreat, TooLong

MOST_PAIRS = 500
MOST_EXPONENT = 1000

# Exponents are packed into one integer, so that they are added and compared at once. Each has
# room for twice the bound and back again, as it comes in products and quotients of two sums.
BASE = 16384
HALF = 8192

# The points have nothing to do with each other, so that a rest that isn't nought is nought there
# with a chance of about one to the prime only.
PRIME = 577215664901532860606512103
POINTS = (
    314159265358979323846264338,
    271828182845904523536028747,
    141421356237309504880168872,
    173205080756887729352744634,
    223606797749978969640917366,
    161803398874989484820458683,
)

# str refuses integers of very many digits, so great coefficients are written in pieces.
PIECE_DIGITS = 512


def is_sum(n, value):
    """Tell whether the value is a sum of n names."""
    check_count(n)
    if not isinstance(value, tuple) or len(value) > MOST_PAIRS:
        return False
    if not all([_is_pair(n, pair) for pair in value]):
        return False
    return all([value[at][0] < value[at + 1][0] for at in range(len(value) - 1)])


def _is_pair(n, pair):
    """Tell whether the value is a pair of n exponents and a coefficient."""
    if not isinstance(pair, tuple) or len(pair) != 2:
        return False
    exponents, coefficient = pair
    if not isinstance(exponents, tuple) or len(exponents) != n:
        return False
    if not all([is_whole(power, -MOST_EXPONENT, MOST_EXPONENT) for power in exponents]):
        return False
    return is_int(coefficient) and coefficient != 0


def check_sum(n, value):
    """Raise BadCount for what is no number of names, BadSum for what is no sum of them."""
    if not is_sum(n, value):
        raise BadSum()


def plus(n, one, other):
    """Give the sum of two sums of n names."""
    check_sum(n, one)
    check_sum(n, other)
    return added(n, one, other)


def added(n, one, other):
    """Give the sum of two sums, for what is known to be such."""
    table = _table_of(one)
    for exponents, coefficient in other:
        key = _packed(exponents)
        table[key] = table.get(key, 0) + coefficient
    return _sum_of_table(n, table)


def times(n, one, other):
    """Give the product of two sums of n names."""
    check_sum(n, one)
    check_sum(n, other)
    return multiplied(n, one, other)


def multiplied(n, one, other):
    """Give the product of two sums, for what is known to be such."""
    table = {}
    steps = list(_table_of(other).items())
    for exponents, coefficient in one:
        key = _packed(exponents)
        for step, factor in steps:
            table[key + step] = table.get(key + step, 0) + coefficient * factor
    return _sum_of_table(n, table)


def over(n, one, other):
    """Give the one sum that, times the other, is the first."""
    check_sum(n, one)
    check_sum(n, other)
    if not other:
        raise ByNought()
    return divided(n, one, other)


def divided(n, one, other):
    """Give the one sum that, times the other, is the first, for sums, the other not nought."""
    if not _comes_out(n, one, other):
        raise NotEven()
    return quotient_of(n, one, other)


def quotient_of(n, one, other):
    """Give the one sum that, times the other, is the first; that there is one must be known."""
    rest = _table_of(one)
    waiting = sorted(rest)
    steps = list(_table_of(other).items())
    # The least pair of a product is the product of the least pairs.
    least, part = steps[0]
    found = {}
    while waiting:
        at = heappop(waiting)
        coefficient = rest[at]
        if coefficient != 0:
            if len(found) == MOST_PAIRS:
                raise TooLong(MOST_PAIRS)
            factor = coefficient // part
            found[at - least] = factor
            for step, many in steps:
                place = at - least + step
                if place not in rest:
                    heappush(waiting, place)
                rest[place] = rest.get(place, 0) - factor * many
    return _sum_of_table(n, found)


def _packed(exponents):
    """Give the exponents as one integer."""
    key = 0
    for power in exponents:
        key = key * BASE + power
    return key


def _unpacked(n, key):
    """Give the n exponents that are packed into the key."""
    exponents = []
    for _ in range(n):
        power = (key + HALF) % BASE - HALF
        exponents.append(power)
        key = (key - power) // BASE
    return tuple(exponents[::-1])


def _table_of(told):
    """Give the dict of the packed exponents and the coefficients of a sum, ascending."""
    return {_packed(exponents): coefficient for exponents, coefficient in told}


def _sum_of_table(n, table):
    """Give the sum with the packed exponents and the coefficients of the table."""
    keys = [key for key, coefficient in table.items() if coefficient != 0]
    if len(keys) > MOST_PAIRS:
        raise TooLong(MOST_PAIRS)
    found = tuple([(_unpacked(n, key), table[key]) for key in sorted(keys)])
    if not all([abs(power) <= MOST_EXPONENT for exponents, _ in found for power in exponents]):
        raise TooGreat()
    return found


def _comes_out(n, one, other):
    """Tell whether the first is the other times some sum, of any length.

    What comes of a division may be far too long to be written out before a rest is seen.
    Therefore all names but one are set to points modulo a prime, for each name in turn, and
    the rows of coefficients that are left are divided: a factor of the other that has a name
    must divide the row where this name is left. As to the numbers that divide, the greatest
    common divisors of the coefficients tell it, by the lemma of Gauss.
    """
    if _common(one) % _common(other) != 0:
        return False
    powers = [_powers_of(point) for point in POINTS[:n]]
    for left in range(n):
        if not _is_multiple(_row_of(one, left, powers), _row_of(other, left, powers)):
            return False
    return True


def _common(told):
    """Give the greatest common divisor of the coefficients, 0 for nought."""
    common = 0
    for _, coefficient in told:
        common = gcd(common, coefficient)
    return common


def _powers_of(point):
    """Give the powers of the point modulo PRIME, one for each exponent from the least on.

    They begin with the power 0, for the same factor at all pairs makes no difference.
    """
    powers = [1]
    for _ in range(2 * MOST_EXPONENT):
        powers.append(powers[-1] * point % PRIME)
    return powers


def _row_of(told, left, powers):
    """Give the coefficients, modulo PRIME, of the powers of one name that is left.

    There are no noughts at the ends, for a power of the name makes no difference.
    """
    row = [0] * (2 * MOST_EXPONENT + 1)
    for exponents, coefficient in told:
        many = coefficient % PRIME
        for name, power in enumerate(exponents):
            if name != left:
                many = many * powers[name][power + MOST_EXPONENT] % PRIME
        place = exponents[left] + MOST_EXPONENT
        row[place] = (row[place] + many) % PRIME
    kept = [place for place, many in enumerate(row) if many != 0]
    return row[kept[0]:kept[-1] + 1] if kept else []


def _is_multiple(row, other):
    """Tell whether a row of coefficients is, modulo PRIME, the other times some row."""
    if not other or len(row) < len(other):
        return not row
    rest = list(row)
    steps = [(at, many) for at, many in enumerate(other) if many != 0]
    inverse = _inverse(other[-1])
    for low in range(len(row) - len(other), -1, -1):
        factor = rest[low + len(other) - 1] * inverse % PRIME
        if factor != 0:
            for at, many in steps:
                rest[low + at] = (rest[low + at] - factor * many) % PRIME
    return not any(rest)


def _inverse(many):
    """Give what, times the number, is 1 modulo PRIME."""
    low, high = many, PRIME
    found, behind = 1, 0
    while low > 1:
        fits = high // low
        low, high = high - fits * low, low
        found, behind = behind - fits * found, found
    return found % PRIME


def sum_text(n, told):
    """Give the sum as a text."""
    check_sum(n, told)
    if not told:
        return "0"
    return " + ".join([_text_of_pair(exponents, coefficient) for exponents, coefficient in told])


def _text_of_pair(exponents, coefficient):
    """Give a pair as a text."""
    words = [_text_of_power(name, power) for name, power in enumerate(exponents) if power != 0]
    if coefficient != 1 or not words:
        words = [_text_of_int(coefficient)] + words
    return "*".join(words)


def _text_of_power(name, power):
    """Give the power of a name as a text."""
    return f"x{name}" if power == 1 else f"x{name}^{power}"


def _text_of_int(number):
    """Give an integer of any size as a text."""
    piece = (10 ** 64) ** 8
    words = []
    high = abs(number)
    while high >= piece:
        high, low = divmod(high, piece)
        words.append(str(low).zfill(PIECE_DIGITS))
    words.append(str(high))
    if number < 0:
        words.append("-")
    return "".join(words[::-1])


def below(n, told):
    """Tell for each name how often it stands below the line of the sum."""
    check_sum(n, told)
    return tuple([max([0] + [-exponents[name] for exponents, _ in told]) for name in range(n)])
