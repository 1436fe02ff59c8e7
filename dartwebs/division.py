"""Division of sums by sums, and what sums are packed into to be reckoned with."""

from heapq import heappop, heappush
from math import gcd

from dartwebs.errors import NotEven, TooGreat, TooLong
from dartwebs.points import leaves_rest_at_points

MOST_PAIRS = 500
MOST_EXPONENT = 1000

# Exponents are packed into one integer, so that they are added and compared at once. Each has
# room for twice the bound and back again, as it comes in products and quotients of two sums.
BASE = 16384
HALF = 8192


def packed(exponents):
    """Give the exponents as one integer."""
    key = 0
    for power in exponents:
        key = key * BASE + power
    return key


def unpacked(n, key):
    """Give the n exponents that are packed into the key."""
    exponents = []
    for _ in range(n):
        power = (key + HALF) % BASE - HALF
        exponents.append(power)
        key = (key - power) // BASE
    return tuple(exponents[::-1])


def table_of(told):
    """Give the dict of the packed exponents and the coefficients of a sum, ascending."""
    return {packed(exponents): coefficient for exponents, coefficient in told}


def bounded(pairs):
    """Give the pairs of a sum, in which no exponent may be beyond its bound."""
    if not all([abs(power) <= MOST_EXPONENT for exponents, _ in pairs for power in exponents]):
        raise TooGreat()
    return pairs


def divided(n, one, other):
    """Give the one sum that, times the other, is the first, for sums, the other not nought."""
    try:
        return quotient_of(n, one, other)
    except TooLong:
        # If a rest is left behind what was written out so far, there is no such sum at all.
        if _comes_out(n, one, other):
            raise
    raise NotEven()


def quotient_of(n, one, other):
    """Give the same, but TooLong already where too many pairs come before a rest is seen."""
    division = Division(n, one, other)
    found = []
    while (pair := division.next_pair()) is not None:
        if len(found) == MOST_PAIRS:
            raise TooLong(MOST_PAIRS)
        found.append(pair)
    return bounded(tuple(found))


class Division:
    """Divides a sum by another one, not nought, from the least pair of what is left on."""

    def __init__(self, n, one, other):
        self.n = n
        self.rest = table_of(one)
        self.waiting = sorted(self.rest)
        # The least pair of a product is the product of the least pairs.
        steps = list(table_of(other).items())
        self.least, self.part = steps[0]
        self.steps = steps[1:]
        # In each name the ends of a product are the sums of the ends.
        ends = list(zip(_ends(n, one), _ends(n, other)))
        self.bounds = [(low - less, high - more) for (low, high), (less, more) in ends]

    def next_pair(self):
        """Give the next pair of what comes, by ascending exponents, or None if nothing is left.

        NotEven tells that some of what is left can't be taken away.
        """
        while self.waiting:
            at = heappop(self.waiting)
            coefficient = self.rest.pop(at)
            if coefficient != 0:
                return self.taken(at - self.least, coefficient)
        return None

    def taken(self, place, coefficient):
        """Give the pair at the place that takes the coefficient away, and take away all it brings."""
        exponents = unpacked(self.n, place)
        factor, left = divmod(coefficient, self.part)
        fits = all([low <= power <= high for power, (low, high) in zip(exponents, self.bounds)])
        if left != 0 or not fits:
            raise NotEven()
        for step, many in self.steps:
            key = place + step
            if key not in self.rest:
                heappush(self.waiting, key)
            self.rest[key] = self.rest.get(key, 0) - factor * many
        return exponents, factor

    def comes_out(self):
        """Tell whether nothing is left at last, however many pairs come."""
        try:
            while self.next_pair() is not None:
                pass
        except NotEven:
            return False
        return True


def _ends(n, told):
    """Give, for each name, the pair of its least and its greatest exponent, of nought 0 and 0."""
    rows = [[exponents[name] for exponents, _ in told] for name in range(n)]
    return [(min(row, default=0), max(row, default=0)) for row in rows]


def _comes_out(n, one, other):
    """Tell, and surely, whether the first is the other, not nought, times a sum of any length.

    What comes may be far too long to be written out. It is so by the factors of the other that
    have the powers of one product of names alone, such as x0*x1^-1. These are found and tried
    by themselves: such a factor divides a sum if it divides each line of it along its product,
    and has nothing in common with factors along other products or with what is left of the
    other. As to the numbers that divide, the common divisors of the coefficients tell it, by
    the lemma of Gauss.
    """
    if leaves_rest_at_points(n, one, other) or _common(one) % _common(other) != 0:
        return False
    other = _without_common(other)
    for direction in _directions(other):
        factor = _common_line(_lines_of(other, direction))
        if len(factor) > 1:
            if not all([Division(1, line, factor).comes_out() for line in _lines_of(one, direction)]):
                return False
            other = _without_factor(n, other, _along(factor, direction))
    return all([Division(n, piece, other).comes_out() for piece in _pieces_of(n, one, other)])


def _common(told):
    """Give the greatest common divisor of the coefficients, 0 for nought."""
    common = 0
    for _, coefficient in told:
        common = gcd(common, coefficient)
    return common


def _without_common(told):
    """Give the sum divided by the greatest common divisor of its coefficients."""
    common = _common(told)
    return tuple([(exponents, coefficient // common) for exponents, coefficient in told])


def _directions(told):
    """Give the exponents of all products of names along which the sum may have a factor.

    Along such a product the first as well as the last pair of the sum has others beside it.
    """
    first, last = told[0][0], told[-1][0]
    ahead = {_direction(first, exponents): True for exponents, _ in told[1:]}
    back = {_direction(exponents, last): True for exponents, _ in told[:-1]}
    return [direction for direction in ahead if direction in back]


def _direction(start, end):
    """Give the least step that, some times, leads from the start to the end."""
    step = [power - less for less, power in zip(start, end)]
    common = 0
    for power in step:
        common = gcd(common, power)
    return tuple([power // common for power in step])


def _lines_of(told, direction):
    """Give the lines of the sum along the direction, each as a sum of one name."""
    at = [power != 0 for power in direction].index(True)
    basis = [direction if name == at else None for name in range(len(direction))]
    lines = _parted(told, basis)
    return [tuple([((exponents[at] // direction[at],), many) for exponents, many in line]) for line in lines]


def _along(line, direction):
    """Give the sum of which the sum of one name is the line along the direction."""
    return tuple([(tuple([power * step for step in direction]), many) for (power,), many in line])


def _without_factor(n, told, factor):
    """Give the sum divided by its factor, or the sum itself if too many pairs come."""
    try:
        return quotient_of(n, told, factor)
    except TooLong:
        return told


def _common_line(lines):
    """Give the greatest common divisor of sums of one name, from the power 0 on.

    It's read off the greatest common divisor of their values at one power of two, beyond eight
    times all coefficients of a line. If what is read divides all of them, it's the greatest: the
    value of a further factor in common would divide all coefficients read, none beyond half the
    power; but its roots are roots of that line, too near to 0 for a value as small as this.
    """
    bits = min([max([abs(many) for _, many in line]) for line in lines]).bit_length() + 3
    while True:
        number = 0
        for line in lines:
            number = gcd(number, _value_of_line(line, bits))
        found = _without_common(_line_of_value(number, bits))
        if all([Division(1, line, found).comes_out() for line in lines]):
            return found
        bits = 2 * bits


def _value_of_line(line, bits):
    """Give the value, at 2 to the power bits, of the sum of one name, put so that it begins with the power 0."""
    (first,), _ = line[0]
    return sum([many << (bits * (power - first)) for (power,), many in line])


def _line_of_value(number, bits):
    """Give the sum of one name with small coefficients that has this value at 2 to the power bits."""
    line = []
    power = 0
    while number != 0:
        many = number % (1 << bits)
        if many >= 1 << (bits - 1):
            many -= 1 << bits
        if many != 0:
            line.append(((power,), many))
        number = (number - many) >> bits
        power += 1
    return tuple(line)


def _pieces_of(n, one, other):
    """Give the pieces of the first in which only steps lead from pair to pair that the other has.

    What the other times some sum is, each piece of it is too, as products never mix the pieces.
    """
    basis = [None] * n
    for exponents, _ in other[1:]:
        _join(basis, [power - less for less, power in zip(other[0][0], exponents)])
    return [tuple(piece) for piece in _parted(one, basis)]


def _join(basis, step):
    """Put the step into the basis: for each name None or a step that is 0 ahead of this name."""
    for at in range(len(basis)):
        while step[at] != 0:
            if basis[at] is None:
                basis[at] = step
                return
            many = basis[at][at] // step[at]
            basis[at], step = step, [power - many * less for power, less in zip(basis[at], step)]


def _parted(told, basis):
    """Give the lists of the pairs of the sum between which steps of the basis lead."""
    found = {}
    for exponents, coefficient in told:
        place = exponents
        for at, step in enumerate(basis):
            if step is not None:
                many = place[at] // step[at]
                place = tuple([power - many * less for power, less in zip(place, step)])
        found.setdefault(place, []).append((exponents, coefficient))
    return list(found.values())
