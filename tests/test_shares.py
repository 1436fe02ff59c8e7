"""Point [7]: the values of sums."""

import itertools
import math
import random
import unittest
from fractions import Fraction

from dartwebs.errors import BadCount, BadShares, BadSum
from dartwebs.shares import value

from tests.test_sums import SPOILT_SUMS, in_one_name, names, right_sum, row_of_ones, some_sum
from tests.values import check_arguments, in_good_time, is_int, outcome, outcome_unchanged, right_count, told

BAD = told(BadShares)

SPOILT_SHARES = (
    [(1, 2), (3, 1)],
    ([1, 2], (3, 1)),
    ((1, 2), [3, 1]),
    ((2, 4), (3, 1)),
    ((1, 2), (3, 3)),
    ((1, 0), (3, 1)),
    ((0, 1), (3, 1)),
    ((-1, 2), (3, 1)),
    ((1, -2), (3, 1)),
    ((-1, -2), (3, 1)),
    ((True, 2), (3, 1)),
    ((1, True), (3, 1)),
    ((1, 2), (False, 1)),
    ((1, 2, 3), (3, 1)),
    ((1,), (3, 1)),
    ((), (3, 1)),
    (1, 2),
    ((1, 2), 3),
    ((1, 2), None),
    ((1, 2), "31"),
    ((1, "2"), (3, 1)),
    ((1, 2.0), (3, 1)),
    ((10 ** 6 + 1, 1), (3, 1)),
    ((1, 10 ** 6 + 1), (3, 1)),
    ((10 ** 400, 1), (3, 1)),
    ((1, 2),),
    ((1, 2), (3, 1), (1, 1)),
    {(1, 2): (3, 1)},
)


def right_shares(n, shares):
    if type(shares) is not tuple or len(shares) != n:
        return False
    for share in shares:
        if type(share) is not tuple or len(share) != 2 or not all(is_int(part) for part in share):
            return False
        if not all(1 <= part <= 10 ** 6 for part in share) or math.gcd(*share) != 1:
            return False
    return True


def some_shares(chance, n, most):
    shares = [Fraction(chance.randint(1, most), chance.randint(1, most)) for _ in range(n)]
    return tuple((share.numerator, share.denominator) for share in shares)


def plain_value(one, shares):
    total = Fraction(0)
    for powers, many in one:
        part = Fraction(many)
        for power, share in zip(powers, shares):
            part *= Fraction(*share) ** power
        total += part
    return total.numerator, total.denominator


class Value(unittest.TestCase):
    def check(self, n, one, shares, wanted):
        self.assertEqual(outcome_unchanged(value, n, one, shares), ("value", wanted))

    def test_arguments(self):
        count = (2, right_count, BadCount)
        one = ((((-1, 0), 1), ((-1, 1), 1)), right_sum, BadSum)
        shares = (((1, 2), (3, 1)), lambda n, _, value: right_shares(n, value), BadShares)
        check_arguments(self, value, (count, one, shares), SPOILT_SUMS + SPOILT_SHARES)

    def test_shares_at_the_bounds(self):
        for share in ((10 ** 6, 1), (1, 10 ** 6), (10 ** 6, 999999), (999999, 10 ** 6), (1, 1)):
            self.check(1, names(1), (share,), share)
            self.check(1, names(-1), (share,), share[::-1])
        for share in ((10 ** 6 + 1, 1), (1, 10 ** 6 + 1), (10 ** 6 + 1, 10 ** 6), (0, 1), (1, 0), (-1, 1), (1, -1),
                      (2, 2), (10 ** 6, 2), (6, 4), (True, 1), (1, True), (1, 2, 3), [1, 2], None):
            for at in range(3):
                shares = ((1, 1),) * at + (share,) + ((1, 1),) * (2 - at)
                self.assertEqual(outcome_unchanged(value, 3, (), shares), BAD, share)

    def test_numbers_of_shares(self):
        for n, many in itertools.product(range(1, 7), range(8)):
            wanted = ("value", (0, 1)) if many == n else BAD
            self.assertEqual(outcome(value, n, (), ((2, 3),) * many), wanted)

    def test_nought(self):
        self.check(2, (), ((1, 2), (3, 1)), (0, 1))
        self.check(2, (((0, 1), 1), ((1, 0), -6)), ((1, 2), (3, 1)), (0, 1))
        self.check(1, in_one_name((-1, 2), (0, -3), (1, 1)), ((2, 1),), (0, 1))

    def test_lowest_terms(self):
        self.check(2, (((0, 1), 1), ((1, 0), 1)), ((1, 6), (1, 3)), (1, 2))
        self.check(2, (((0, 1), 1), ((1, 0), 1)), ((1, 4), (3, 4)), (1, 1))
        self.check(1, names(1, many=4), ((3, 2),), (6, 1))
        self.check(1, names(0, many=-7), ((3, 2),), (-7, 1))
        self.check(1, names(1, many=-7), ((3, 14),), (-3, 2))
        self.check(2, names(2, -2, many=9), ((2, 3), (4, 1)), (1, 4))

    def test_powers_below_nought(self):
        self.check(1, names(-3), ((2, 5),), (125, 8))
        self.check(2, (((-1, 0), 1), ((-1, 1), 1)), ((1, 2), (3, 1)), (8, 1))
        self.check(1, in_one_name((-2, 1), (2, 1)), ((2, 3),), (97, 36))

    def test_against_the_plain_way(self):
        chance = random.Random(71)
        for _ in range(400):
            n = chance.randint(1, 6)
            one = some_sum(chance, n, chance.randint(0, 8), chance.choice((1, 3, 20)), chance.choice((2, 10 ** 30)))
            shares = some_shares(chance, n, chance.choice((2, 9, 10 ** 6)))
            self.assertEqual(outcome_unchanged(value, n, one, shares), ("value", plain_value(one, shares)))

    def test_great_powers(self):
        with in_good_time():
            self.check(1, names(1000), ((10 ** 6, 999999),), ((10 ** 6) ** 1000, 999999 ** 1000))
            self.check(1, names(-1000), ((10 ** 6, 999999),), (999999 ** 1000, (10 ** 6) ** 1000))
            self.check(1, row_of_ones(500), ((2, 1),), (2 ** 500 - 1, 1))
            self.check(1, row_of_ones(500, -499), ((1, 2),), (2 ** 500 - 1, 1))
            chance = random.Random(72)
            one, shares = some_sum(chance, 6, 60, 1000), some_shares(chance, 6, 10 ** 6)
            self.assertEqual(value(6, one, shares), plain_value(one, shares))
            self.assertEqual(outcome(value, 6, some_sum(chance, 6, 500, 1000), shares)[0], "value")
