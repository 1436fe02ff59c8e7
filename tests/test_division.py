"""Point [6]: what over tells where the quotient would be very long, and where trials could be misled."""

import itertools
import random
import unittest
from unittest import mock

from dartwebs.errors import NotEven, TooLong
from dartwebs.lots import lot_behind
from dartwebs.sums import over, plus, times

from tests.test_sums import GREAT, LONG, UNEVEN, binomial, in_one_name, names, plain_over, power_of_name, product_of
from tests.test_sums import row_of_ones, some_sum
from tests.values import in_good_time, outcome, outcome_unchanged, told

# Numbers with which earlier trials of a division were done.
OLD_MODULUS = 577215664901532860606512103
OLD_POINT = 271828182845904523536028747


def along(step, low, high, one=-1, other=1):
    """one times a product of names to the power low and other times the same to the power high."""
    pairs = [(tuple(low * power for power in step), one), (tuple(high * power for power in step), other)]
    return tuple(sorted(pairs))


def names_but_the_first(n):
    """1 plus all names but the first."""
    return tuple(sorted([((0,) * n, 1)] + [(power_of_name(n, at, 1), 1) for at in range(1, n)]))


def power_of(n, one, many):
    return product_of(n, *(one,) * many)


class MisledTrials(unittest.TestCase):
    def test_multiples_of_the_modulus(self):
        other = in_one_name((0, 1), (1, 1))
        for many in (OLD_MODULUS, -OLD_MODULUS, OLD_MODULUS ** 3):
            self.assertEqual(outcome(over, 1, names(0, many=many), other), UNEVEN)
            self.assertEqual(outcome(over, 1, plus(1, names(7, many=many), times(1, other, row_of_ones(400))), other),
                             UNEVEN)

    def test_sums_that_are_nought_at_a_point(self):
        one = (((0, 0), -OLD_POINT), ((0, 1), 1))
        for other in (binomial(2, 0, 0, 1), binomial(2, 0, 0, 1, 1, 1), binomial(2, 0, 0, 3, 2, 5)):
            self.assertEqual(outcome(over, 2, one, other), UNEVEN)
            self.assertEqual(outcome(over, 2, times(2, one, binomial(2, 0, 0, 900)), times(2, other, other)), UNEVEN)

    def test_a_common_factor_of_the_coefficients(self):
        one = in_one_name((-2, OLD_MODULUS), (-1, OLD_MODULUS))
        self.assertEqual(outcome_unchanged(over, 1, one, in_one_name((-3, OLD_MODULUS), (0, 6))), UNEVEN)
        self.assertEqual(outcome(over, 1, one, in_one_name((-3, OLD_MODULUS), (0, OLD_MODULUS))), UNEVEN)

    def test_in_a_lot(self):
        lot = ((((0, 0), 1), ((1, 0), 1)), names(0, 0, many=OLD_MODULUS - 1))
        with self.assertRaises(NotEven):
            lot_behind(((0, 1), (-1, 0)), lot, 0)

    def test_what_is_told_is_the_quotient(self):
        chance = random.Random(601)
        for _ in range(400):
            n = chance.randint(1, 3)
            one = times(n, some_sum(chance, n, 3, 2, 3), names(*(0,) * n, many=chance.choice((1, OLD_MODULUS))))
            other = some_sum(chance, n, chance.randint(1, 3), 1, 3)
            if chance.random() < 0.5:
                one = times(n, one, other)
            found = outcome(over, n, one, other)
            self.assertEqual(found, plain_over(one, other))
            if found[0] == "value":
                self.assertEqual(times(n, found[1], other), one)


class LongQuotients(unittest.TestCase):
    def check(self, n, one, other):
        """The quotient is too long; but if one pair is added, or told otherwise, there is none."""
        self.assertEqual(outcome_unchanged(over, n, one, other), LONG, (n, one[:9], other[:9]))
        for powers in ((0,) * n, (1,) * n, (-3,) + (2,) * (n - 1), one[-1][0], one[0][0]):
            # A pair alone is never divided by what has two pairs.
            more = plus(n, one[:-1] if len(one) == 500 else one, names(*powers, many=6))
            self.assertEqual(outcome(over, n, more, other), UNEVEN, (n, more[:9], other[:9]))

    def check_uneven(self, n, one, other):
        self.assertEqual(outcome_unchanged(over, n, one, other), UNEVEN, (n, one[:9], other[:9]))

    def test_one_name(self):
        one, last = binomial(1, 0, -300, 300), binomial(1, 0, 0, 1)
        for other in (last, binomial(1, 0, -3, -2, 1, -1), binomial(1, 0, 0, 2), in_one_name((0, 1), (1, 1), (2, 1))):
            self.check(1, times(1, one, binomial(1, 0, 0, 7, 5, 2)), other)
        self.check(1, times(1, one, binomial(1, 0, 0, 5)), power_of(1, last, 2))
        self.check_uneven(1, times(1, one, binomial(1, 0, 0, 5)), power_of(1, last, 3))
        self.check_uneven(1, one, power_of(1, last, 2))
        self.check_uneven(1, one, binomial(1, 0, 0, 7))
        self.check_uneven(1, one, in_one_name((0, 1), (1, 1), (7, 1)))

    def test_common_divisors_of_coefficients(self):
        one, last = binomial(1, 0, 0, 600, -6, 6), binomial(1, 0, 0, 1)
        for many in (1, -1, 2, 3, -6):
            self.assertEqual(outcome(over, 1, one, times(1, last, names(0, many=many))), LONG)
        for many in (4, 5, -12, OLD_MODULUS):
            self.check_uneven(1, one, times(1, last, names(0, many=many)))
        mixed = times(1, one, in_one_name((0, 3), (1, 5)))
        self.assertEqual(outcome(over, 1, mixed, in_one_name((0, 6), (1, 10))), ("value", binomial(1, 0, 0, 600, -3, 3)))
        self.check_uneven(1, mixed, times(1, last, in_one_name((0, 12), (1, 20))))

    def test_great_coefficients(self):
        for great in (10 ** 20, 10 ** 100, -(7 ** 90)):
            one = in_one_name((0, -great ** 600), (600, 1))
            for other, wanted in ((-great, LONG), (great, LONG), (1 - great, UNEVEN), (-great - 1, UNEVEN)):
                self.assertEqual(outcome(over, 1, one, in_one_name((0, other), (1, 1))), wanted)
            self.assertEqual(outcome(over, 1, plus(1, one, names(300)), in_one_name((0, -great), (1, 1))), UNEVEN)

    def test_factors_along_products_of_names(self):
        steps = ((1, 0, 0), (0, 1, 0), (1, -1, 0), (1, 1, 1), (2, -1, 0), (0, 2, 3), (1, 0, -3))
        for some in itertools.combinations(steps, 2):
            short = [along(step, 0, 1) for step in some]
            one, other = product_of(3, *(along(step, 0, 60) for step in some)), product_of(3, *short)
            self.check(3, one, other)
            self.check(3, times(3, one, short[0]), times(3, other, short[0]))
            self.check_uneven(3, one, times(3, other, short[0]))
            self.check_uneven(3, one, times(3, other, along(some[1], 0, 1, 2, 1)))
        for step in steps:
            one = product_of(3, along(step, 0, 60), along(step, 0, 61), along((1, 3, 1), 0, 20))
            self.check(3, one, product_of(3, along(step, 0, 1), along(step, 0, 1), along((1, 3, 1), 0, 1)))
            self.check_uneven(3, one, power_of(3, along(step, 0, 1), 3))
            self.check_uneven(3, one, power_of(3, along(step, 0, 2), 2))

    def test_far_beyond_what_can_be_written(self):
        with in_good_time():
            for n in range(2, 7):
                one = product_of(n, *(binomial(n, name, -1000, 1000) for name in range(n)))
                self.check(n, one, product_of(n, *(binomial(n, name, 0, 1) for name in range(n))))
                self.check(n, one, product_of(n, *(binomial(n, name, 0, 2) for name in range(n))))
                self.check_uneven(n, one, product_of(n, *(binomial(n, name, 0, 3) for name in range(n))))
                self.check_uneven(n, one, times(n, binomial(n, 1, 0, 1), power_of(n, binomial(n, 0, 0, 1), 2)))

    def test_factors_with_more_names_beside_those_along_products(self):
        three = (((0, 0, 0), 1), ((0, 1, 0), -2), ((1, 0, 0), 3))
        rest = product_of(3, three, three, *(binomial(3, name, -400, 400) for name in range(3)))
        short = [binomial(3, name, 0, 1) for name in range(3)]
        with in_good_time():
            self.assertEqual(outcome(over, 3, rest, three), ("value", plain_over(rest, three)[1]))
            self.check(3, rest, times(3, three, short[0]))
            self.check(3, rest, product_of(3, three, three, short[2]))
            self.check(3, rest, product_of(3, three, *short))
            self.check_uneven(3, rest, product_of(3, three, three, three, short[2]))
            self.check_uneven(3, rest, product_of(3, three, short[1], short[1]))
            self.check_uneven(3, rest, times(3, short[0], (((0, 0, 0), 1), ((0, 0, 1), 3), ((0, 1, 0), -2))))

    def test_factors_that_are_long_once_others_are_taken_out(self):
        # What is left of the divisor has millions of pairs, so that some of its factors stay in it.
        low = [binomial(5, name, 0, 1000) for name in range(3)]
        high = [binomial(5, name, 0, 999) for name in range(3)]
        both = plus(5, product_of(5, *low), times(5, names(0, 0, 0, 1, 0), product_of(5, *high)))
        with in_good_time():
            one = times(5, both, binomial(5, 4, 0, 1000))
            self.check(5, one, times(5, both, binomial(5, 4, 0, 1)))
            self.check_uneven(5, one, times(5, both, binomial(5, 4, 0, 3)))
            self.assertEqual(outcome(over, 5, one, both), ("value", binomial(5, 4, 0, 1000)))

    def test_a_power_less_a_power(self):
        # a^k - b^k is a - b times a sum of very many pairs.
        with in_good_time():
            for n, many in ((2, 300), (3, 25), (4, 12), (5, 8), (6, 6)):
                first = power_of_name(n, 0, 1)
                one = plus(n, ((tuple(many * power for power in first), -1),), power_of(n, names_but_the_first(n), many))
                other = plus(n, ((first, -1),), names_but_the_first(n))
                found = outcome_unchanged(over, n, one, other)
                self.assertEqual(found, LONG if n < 6 else ("value", plain_over(one, other)[1]), n)
                self.assertEqual(outcome(over, n, plus(n, one, names(*(2,) * n)), other), UNEVEN)
                self.assertEqual(outcome(over, n, one, plus(n, ((first, -3),), names_but_the_first(n))), UNEVEN)

    def test_long_though_nothing_is_along_a_product(self):
        # The product of x + y + 1 for all signs of x and y, with x and y to great powers, is divided by one.
        one = (((0, 0), 1), ((0, 2), -2), ((0, 4), 1), ((2, 0), -2), ((2, 2), -2), ((4, 0), 1))
        other = (((0, 0), 1), ((0, 1), 1), ((1, 0), 1))
        self.assertEqual(len(over(2, one, other)), 10)
        far = tuple((tuple(30 * power for power in powers), many) for powers, many in one)
        self.check_uneven(2, far, other)
        more = tuple((tuple(30 * power for power in powers), many) for powers, many in other)
        self.assertEqual(len(over(2, far, more)), 10)
        self.check(2, times(2, far, binomial(2, 0, 0, 700)), times(2, more, binomial(2, 0, 0, 7)))

    def test_a_rest_far_off_in_good_time(self):
        # The least row of the divisor has one pair only, so that a long way goes by before a rest is seen.
        other = plus(6, names(*(0,) * 6), times(6, names(1, 0, 0, 0, 0, 0), names_but_the_first(6)))
        corners = product_of(6, names(*(0,) * 6))
        for name in range(6):
            corners = plus(6, corners, ((power_of_name(6, name, 990), 1),))
        one = times(6, other, corners)
        self.assertEqual(over(6, one, other), corners)
        with in_good_time():
            for many in (1, -5, OLD_MODULUS, OLD_MODULUS * 10 ** 40):
                self.check_uneven(6, plus(6, one, names(*(1,) * 6, many=many)), other)
            self.check_uneven(6, corners, other)

    def test_too_great_only_where_there_is_a_quotient(self):
        self.assertEqual(outcome(over, 1, binomial(1, 0, 400, 1000), binomial(1, 0, -1000, -999)), LONG)
        self.assertEqual(outcome(over, 1, binomial(1, 0, 600, 1000), binomial(1, 0, -1000, -999)), GREAT)
        self.check_uneven(1, binomial(1, 0, 600, 1000, 1, 2), binomial(1, 0, -1000, -999))
        self.check_uneven(1, binomial(1, 0, 400, 1000), binomial(1, 0, -1000, -999, 2, 1))

    def test_some_long_products_against_the_plain_way(self):
        chance = random.Random(602)
        found = []
        for _ in range(60):
            n = chance.choice((1, 2))
            factors = [some_sum(chance, n, chance.randint(2, 3), 1, 2) for _ in range(2)]
            step = chance.choice((power_of_name(n, 0, 1), (1,) * n, (1, -1)[:n]))
            factors.append(along(step, 0, 1))
            one = product_of(n, along(step, 0, 620), *(chance.choice(factors) for _ in range(2)))
            other = product_of(n, *(chance.choice(factors) for _ in range(2)))
            if one and other:
                found.append(outcome(over, n, one, other))
                self.assertEqual(found[-1], plain_over(one, other), (n, one, other))
        for wanted in (LONG, UNEVEN):
            self.assertGreater(found.count(wanted), 5)


def some_factor(chance, n):
    """A sum of few pairs, often one along a product of names."""
    if chance.random() < 0.5:
        return some_sum(chance, n, chance.randint(1, 3), 1, 2)
    step = [chance.randint(-1, 1) for _ in range(n)]
    step[0] = step[0] or 1
    table = {}
    for (power,), many in some_sum(chance, 1, chance.randint(2, 3), 2, 2):
        table[tuple(power * less for less in step)] = many
    return tuple(sorted(table.items()))


class EachPartAlone(unittest.TestCase):
    """What tells a rest is taken apart: the proof without the points, and the points without the proof."""

    def cases(self, seed, many):
        chance = random.Random(seed)
        for _ in range(many):
            n = chance.choice((1, 1, 2, 2, 3, 4))
            factors = [some_factor(chance, n) for _ in range(4)] + [names(*(0,) * n, many=chance.choice((2, 3, -6)))]
            one = product_of(n, *chance.choices(factors, k=chance.randint(1, 4)))
            other = product_of(n, *chance.choices(factors, k=chance.randint(1, 3)))
            yield n, one, other

    def check(self, seed, many):
        kinds = []
        with mock.patch("dartwebs.division.MOST_PAIRS", 2):
            for n, one, other in self.cases(seed, many):
                wanted = plain_over(one, other)
                if wanted[0] == "value" and len(wanted[1]) > 2:
                    wanted = told(TooLong, most=2)
                self.assertEqual(outcome(over, n, one, other), wanted, (n, one, other))
                kinds.append(wanted[1].__name__ if wanted[0] == "error" else "value")
        for kind in set(kinds):
            self.assertGreater(kinds.count(kind), many // 50, kind)
        self.assertEqual(len(set(kinds)), 3)

    def test_both(self):
        self.check(701, 1500)

    def test_the_proof_alone(self):
        with mock.patch("dartwebs.division.leaves_rest_at_points", lambda *_: False):
            self.check(702, 3000)

    def test_the_proof_alone_for_long_quotients(self):
        with mock.patch("dartwebs.division.leaves_rest_at_points", lambda *_: False):
            tests = unittest.TestSuite()
            for name in ("test_one_name", "test_common_divisors_of_coefficients", "test_great_coefficients",
                         "test_factors_along_products_of_names", "test_far_beyond_what_can_be_written",
                         "test_factors_with_more_names_beside_those_along_products"):
                tests.addTest(LongQuotients(name))
            found = unittest.TestResult()
            tests.run(found)
        self.assertEqual([found.testsRun, found.failures, found.errors], [6, [], []])

    def test_points_tell_no_rest_that_is_not_there(self):
        # Without a proof an answer may be too long where there is none, but never the other way round.
        with mock.patch("dartwebs.division.Division.comes_out", lambda _: True):
            with mock.patch("dartwebs.division.MOST_PAIRS", 2):
                for n, one, other in self.cases(703, 1000):
                    if plain_over(one, other)[0] == "value":
                        self.assertNotEqual(outcome(over, n, one, other), UNEVEN)
