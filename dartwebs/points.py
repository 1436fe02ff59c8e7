"""A quick look at a division of sums, where all names but one are points modulo a number."""

from math import gcd

# The product of the primes below 30: what is 1 more than a multiple of it has none of them.
SMALL_PRIMES = 6469693230
# A prime, 2 to the power 127 less 1.
MIXED_BELOW = 170141183460469231731687303715884105727
MIXED_FIRST = 27182818284590452353602874713526624977
PIECE_BITS = 96


def leaves_rest_at_points(n, one, other):
    """Tell whether a rest is seen at points that hang on the sums, neither of them nought.

    There a rest is seen quickly, however long the division would go on. That none is seen tells
    nothing. The number and the points make an answer quick, never wrong: they hang on all of the
    sums, lest it be easy to write such sums that a rest isn't seen.
    """
    modulus, points = modulus_and_points(n, one + other)
    return leaves_rest_at(one, other, modulus, points)


def leaves_rest_at(one, other, modulus, points):
    """Tell whether a rest is seen where all names but one are these points modulo this number.

    What is told is certain for any points and any number from 2 on. Let both sums begin with the
    power 0 in each name. As least powers add up, so does their quotient, if there is one: all
    three are polynomials, and the first is the other times the third at the points, too. There
    the third is found from its greatest power on, as long as the greatest coefficient of the
    other has no factor in common with the number. Its least coefficient may have one, so that
    the first has more noughts at its lower end than both of which it is made: they stay there.
    """
    one, other = _from_nought_on(one), _from_nought_on(other)
    most = max([max(exponents) for exponents, _ in one + other])
    powers = [_powers_of(point, most, modulus) for point in points]
    for left in range(len(points)):
        row = _row_of(one, left, powers, modulus)
        if _leaves_rest(row, _row_of(other, left, powers, modulus), modulus):
            return True
    return False


def _from_nought_on(told):
    """Give the sum times a product of names, so that the least power of each name is 0."""
    rows = [exponents for exponents, _ in told]
    least = [min([row[name] for row in rows]) for name in range(len(rows[0]))]
    return [(tuple([power - less for power, less in zip(row, least)]), many) for row, many in told]


def _powers_of(point, most, modulus):
    """Give the powers of the point modulo the number, from the power 0 to the most."""
    powers = [1]
    for _ in range(most):
        powers.append(powers[-1] * point % modulus)
    return powers


def _row_of(told, left, powers, modulus):
    """Give the coefficients of the powers of the name that is left, with no noughts at the upper end."""
    row = [0] * len(powers[left])
    for exponents, coefficient in told:
        many = coefficient % modulus
        for name, power in enumerate(exponents):
            if name != left:
                many = many * powers[name][power] % modulus
        row[exponents[left]] = (row[exponents[left]] + many) % modulus
    while row and row[-1] == 0:
        row.pop()
    return row


def _leaves_rest(row, other, modulus):
    """Tell whether the row of coefficients surely isn't, modulo the number, the other times some row."""
    if not other:
        return len(row) > 0
    if gcd(other[-1], modulus) != 1:
        return False
    inverse = _inverse(other[-1], modulus)
    rest = list(row)
    steps = [(at, many) for at, many in enumerate(other) if many != 0]
    for low in range(len(row) - len(other), -1, -1):
        factor = rest[low + len(other) - 1] * inverse % modulus
        if factor != 0:
            for at, many in steps:
                rest[low + at] = (rest[low + at] - factor * many) % modulus
    return any(rest)


def _inverse(many, modulus):
    """Give what, times the number, is 1 modulo the other, if they have no factor in common."""
    low, high = many, modulus
    found, behind = 1, 0
    while low > 1:
        fits = high // low
        low, high = high - fits * low, low
        found, behind = behind - fits * found, found
    return found % modulus


def modulus_and_points(n, pairs):
    """Give a great number and n points below it that hang on all of the pairs."""
    mixed = MIXED_FIRST
    for exponents, coefficient in pairs:
        for number in exponents + (coefficient,):
            mixed = _mixed_with(mixed, number)
    modulus = SMALL_PRIMES * (mixed + 1) + 1
    # A prime has no factor in common with a greatest coefficient. Where it's none after all, less is seen.
    while not _may_be_prime(modulus):
        modulus += SMALL_PRIMES
    points = []
    for _ in range(n):
        mixed = _mixed_with(mixed, 0)
        points.append(mixed)
    return modulus, points


def _mixed_with(mixed, number):
    """Give a number that hangs on what was mixed and on all of the number, not just on a remainder of it."""
    mixed = (mixed * mixed + (3 if number < 0 else 2)) % MIXED_BELOW
    left = abs(number)
    while left > 0:
        mixed = (mixed * mixed + left % (1 << PIECE_BITS)) % MIXED_BELOW
        left = left >> PIECE_BITS
    return mixed


def _may_be_prime(number):
    """Tell whether 2 to the power of the number less 1 is 1 modulo it, as is so for each prime but 2."""
    bits = f"{number - 1:b}"
    power = 1
    for bit in bits:
        power = power * power % number
        if bit == "1":
            power = 2 * power % number
    return power == 1
