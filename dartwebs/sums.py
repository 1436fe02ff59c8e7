"""Sums of products of the names x0, x1, .. to whole powers, with whole coefficients."""

from dartwebs.checks import check_count, is_int, is_whole
from dartwebs.division import MOST_EXPONENT, MOST_PAIRS, bounded, divided, packed, table_of, unpacked
from dartwebs.errors import BadSum, ByNought, TooLong

# str refuses integers of very many digits, so great coefficients are written in pieces.
PIECE_DIGITS = 512


def is_sum(n, value):
    """Tell whether the value is a sum of n names."""
    check_count(n)
    if not isinstance(value, tuple) or len(value) > MOST_PAIRS:
        return False
    if not all([_is_pair(n, pair) for pair in value]):
        return False
    return all([value[at][0] < value[at + 1][0] for at in range(len(value) - 1)])


def _is_pair(n, pair):
    """Tell whether the value is a pair of n exponents and a coefficient."""
    if not isinstance(pair, tuple) or len(pair) != 2:
        return False
    exponents, coefficient = pair
    if not isinstance(exponents, tuple) or len(exponents) != n:
        return False
    if not all([is_whole(power, -MOST_EXPONENT, MOST_EXPONENT) for power in exponents]):
        return False
    return is_int(coefficient) and coefficient != 0


def check_sum(n, value):
    """Raise BadCount for what is no number of names, BadSum for what is no sum of them."""
    if not is_sum(n, value):
        raise BadSum()


def plus(n, one, other):
    """Give the sum of two sums of n names."""
    check_sum(n, one)
    check_sum(n, other)
    return added(n, one, other)


def added(n, one, other):
    """Give the sum of two sums, for what is known to be such."""
    table = table_of(one)
    for exponents, coefficient in other:
        key = packed(exponents)
        table[key] = table.get(key, 0) + coefficient
    return _sum_of_table(n, table)


def times(n, one, other):
    """Give the product of two sums of n names."""
    check_sum(n, one)
    check_sum(n, other)
    return multiplied(n, one, other)


def multiplied(n, one, other):
    """Give the product of two sums, for what is known to be such."""
    table = {}
    steps = list(table_of(other).items())
    for exponents, coefficient in one:
        key = packed(exponents)
        for step, factor in steps:
            table[key + step] = table.get(key + step, 0) + coefficient * factor
    return _sum_of_table(n, table)


def over(n, one, other):
    """Give the one sum that, times the other, is the first."""
    check_sum(n, one)
    check_sum(n, other)
    if not other:
        raise ByNought()
    return divided(n, one, other)


def _sum_of_table(n, table):
    """Give the sum with the packed exponents and the coefficients of the table."""
    keys = [key for key, coefficient in table.items() if coefficient != 0]
    if len(keys) > MOST_PAIRS:
        raise TooLong(MOST_PAIRS)
    return bounded(tuple([(unpacked(n, key), table[key]) for key in sorted(keys)]))


def sum_text(n, told):
    """Give the sum as a text."""
    check_sum(n, told)
    if not told:
        return "0"
    return " + ".join([_text_of_pair(exponents, coefficient) for exponents, coefficient in told])


def _text_of_pair(exponents, coefficient):
    """Give a pair as a text."""
    words = [_text_of_power(name, power) for name, power in enumerate(exponents) if power != 0]
    if coefficient != 1 or not words:
        words = [_text_of_int(coefficient)] + words
    return "*".join(words)


def _text_of_power(name, power):
    """Give the power of a name as a text."""
    return f"x{name}" if power == 1 else f"x{name}^{power}"


def _text_of_int(number):
    """Give an integer of any size as a text."""
    piece = (10 ** 64) ** 8
    words = []
    high = abs(number)
    while high >= piece:
        high, low = divmod(high, piece)
        words.append(str(low).zfill(PIECE_DIGITS))
    words.append(str(high))
    if number < 0:
        words.append("-")
    return "".join(words[::-1])


def below(n, told):
    """Tell for each name how often it stands below the line of the sum."""
    check_sum(n, told)
    return tuple([max([0] + [-exponents[name] for exponents, _ in told]) for name in range(n)])
