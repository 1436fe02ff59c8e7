"""Points [6] and [8]: no rest is told that isn't there, whatever the number and the points of a quick look are."""

import itertools
import random
import unittest
from unittest import mock

from dartwebs.division import divided
from dartwebs.lots import lot_behind
from dartwebs.points import leaves_rest_at, leaves_rest_at_points, modulus_and_points
from dartwebs.sums import over, plus, times

from tests.test_division import along, names_but_the_first
from tests.test_sums import LONG, UNEVEN, binomial, in_one_name, names, plain_over, power_of_name, product_of
from tests.test_sums import row_of_ones, some_sum
from tests.values import in_good_time, outcome, outcome_unchanged

# The number of an earlier look had the factor 31, or 37, and these are multiples of what is left of
# it, where they stand in sums as below.
FITS_ONE_NAME = (436010132806433058446940203493793, 70025810786133832722315480729378192184149312)
FITS_TWO_NAMES = 209962488386652105562655075666599798948805003
FITS_THREE_NAMES = 8954668295308254724455383932735039120638568
# The earlier number itself divides this one, where it stands in sums as below.
FITS_WHOLLY = 16008577264549798758539142409304845420972048211

# Numbers with and without small factors in common with the coefficients, and with squares in them.
SOME_NUMBERS = (2, 3, 4, 6, 8, 9, 12, 30, 31, 36, 31 * 37, 31 ** 2 * 1009, 2 ** 61 - 1)


def geometric(n, step, base, many, factor):
    """factor times x^many - (-base)^many, and base + x, for the product x of names: the quotient has many pairs."""
    return along(step, 0, many, -(-base) ** many * factor, factor), along(step, 0, 1, base, 1)


class SumsMadeToFit(unittest.TestCase):
    def check_long(self, n, step, base, factors):
        for factor in factors + tuple(factor + 1 for factor in factors) + (1, base, -base):
            one, other = geometric(n, step, base, 501, factor)
            self.assertEqual(outcome_unchanged(over, n, one, other), LONG, (n, factor))
            self.assertEqual(outcome(over, n, plus(n, one, names(*(1,) * n)), other), UNEVEN, (n, factor))
            one, other = geometric(n, step, base, 500, factor)
            found = outcome(over, n, one, other)
            self.assertEqual((found[0], len(found[1])), ("value", 500), (n, factor))
            self.assertEqual(times(n, found[1], other), one)

    def test_one_name(self):
        self.check_long(1, (1,), 31, FITS_ONE_NAME)
        self.check_long(1, (-1,), 31, FITS_ONE_NAME)

    def test_more_names(self):
        self.check_long(2, (1, 0), 31, (FITS_TWO_NAMES,))
        self.check_long(2, (0, 1), 31, (FITS_TWO_NAMES,))
        self.check_long(3, (0, 1, -1), 37, (FITS_THREE_NAMES,))
        one, other = geometric(3, (0, 1, -1), -37, 600, FITS_THREE_NAMES)
        self.assertEqual(outcome_unchanged(over, 3, one, other), LONG)

    def test_in_a_lot(self):
        for factor in (FITS_TWO_NAMES, FITS_TWO_NAMES + 1, 1):
            for many, wanted in ((501, LONG), (500, "value")):
                one, other = geometric(2, (1, 0), 31, many, factor)
                lot = (other, plus(2, one, names(0, 0, many=-1)))
                found = outcome_unchanged(lot_behind, ((0, 1), (-1, 0)), lot, 0)
                if wanted == "value":
                    self.assertEqual(found, ("value", (over(2, one, other), lot[1])))
                else:
                    self.assertEqual(found, wanted)
                lot = (other, plus(2, one, names(1, 1)))
                self.assertEqual(outcome(lot_behind, ((0, 1), (-1, 0)), lot, 0), UNEVEN)

    def test_a_rest_is_seen_in_good_time(self):
        # Without a look these divisions would go on for ever.
        other = plus(6, names(*(0,) * 6), times(6, names(1, 0, 0, 0, 0, 0), names_but_the_first(6)))
        corners = tuple(sorted([((0,) * 6, 1)] + [(power_of_name(6, name, 990), 1) for name in range(6)]))
        one = times(6, other, corners)
        self.assertEqual(over(6, one, other), corners)
        for factor in (FITS_WHOLLY, FITS_WHOLLY + 1, -FITS_WHOLLY, 1):
            with in_good_time():
                self.assertEqual(outcome(over, 6, plus(6, one, names(*(1,) * 6, many=factor)), other), UNEVEN)


class AnyNumberAndPoints(unittest.TestCase):
    """What a look tells is held against the plain way, at numbers that make nought of much of the sums."""

    def check_no_rest(self, one, other, numbers=SOME_NUMBERS):
        chance = random.Random(801)
        n = len(one[0][0])
        for modulus in numbers:
            for _ in range(3):
                points = [chance.randrange(modulus) for _ in range(n)]
                self.assertFalse(leaves_rest_at(one, other, modulus, points), (one, other, modulus, points))

    def test_no_rest_where_there_is_a_quotient(self):
        chance = random.Random(802)
        for _ in range(600):
            n = chance.randint(1, 3)
            other, third = (some_sum(chance, n, chance.randint(1, 4), 2, 12) for _ in range(2))
            one = times(n, other, third)
            if one != ():
                self.check_no_rest(one, other)

    def test_all_small_sums_modulo_all_small_numbers(self):
        rows = [in_one_name(*((power, many) for power, many in enumerate(row) if many != 0))
                for row in itertools.product(range(-1, 4), repeat=3)]
        for other, third in itertools.product([row for row in rows if row], repeat=2):
            one = times(1, other, third)
            for modulus in range(2, 7):
                self.assertFalse(leaves_rest_at(one, other, modulus, [0]), (one, other, modulus))

    def test_all_points_with_two_names(self):
        # The rows of the other have any coefficients at these points, noughts and factors of the number too.
        other = (((0, 0), 2), ((0, 1), 1), ((1, 0), 3), ((1, 1), 1), ((2, 1), -1))
        for third in (((0, 0), 3), ((1, 1), 2)), (((-1, 2), 1), ((0, 0), 6)), (((0, -1), 2), ((0, 0), 1), ((3, 0), 9)):
            one = times(2, other, third)
            for modulus in (2, 3, 4, 6, 8, 9, 12):
                for points in itertools.product(range(modulus), repeat=2):
                    self.assertFalse(leaves_rest_at(one, other, modulus, points), (third, modulus, points))

    def test_noughts_at_the_lower_end(self):
        # 31 times 37 is nought modulo their product, so that the first one begins later than both of its factors.
        for low, high in ((31, 37), (37, 31), (31 * 1009, 37)):
            one = times(1, in_one_name((0, low), (1, 1)), in_one_name((0, high), (1, 5), (2, 7)))
            for other in (in_one_name((0, low), (1, 1)), in_one_name((0, high), (1, 5), (2, 7))):
                self.check_no_rest(one, other, (31 * 37, 31, 37))
        one, other = geometric(1, (1,), 31, 501, 37)
        self.check_no_rest(one, other, (31 * 37, 31, 37, 31 ** 2, 31 ** 300))

    def test_noughts_at_the_upper_end_and_everywhere(self):
        other = in_one_name((0, 1), (1, 3), (2, 6))
        for third in (in_one_name((0, 1), (4, 2)), in_one_name((0, 6)), in_one_name((-2, 1), (1, 6))):
            self.check_no_rest(times(1, other, third), other, (2, 3, 6, 9, 12))
            self.check_no_rest(times(1, other, third), third, (2, 3, 6, 9, 12))

    def test_a_rest_is_seen(self):
        for one, other in ((names(0), in_one_name((0, 1), (1, 1))), (names(5, many=7), in_one_name((0, 2), (3, 1))),
                           (row_of_ones(6), row_of_ones(4)), (in_one_name((0, 1), (1, 2), (2, 1)), row_of_ones(3)), (in_one_name((-9, 2), (9, 4)), row_of_ones(2, 7))):
            for modulus in (5, 11, 35, 2 ** 61 - 1):
                self.assertTrue(leaves_rest_at(one, other, modulus, [0]), (one, other, modulus))
        one = plus(2, times(2, binomial(2, 0, 0, 30), binomial(2, 1, 0, 30)), names(4, 9))
        self.assertTrue(leaves_rest_at(one, times(2, binomial(2, 0, 0, 1), binomial(2, 1, 0, 1)), 1009, [3, 5]))

    def test_a_first_sum_is_not_nought_where_the_other_is(self):
        # Modulo 7 the other is nought, and no sum times nought is the first.
        self.assertTrue(leaves_rest_at(in_one_name((0, 1), (2, 7)), in_one_name((0, 7), (1, 14)), 7, [0]))
        self.assertFalse(leaves_rest_at(in_one_name((0, 49), (2, 7)), in_one_name((0, 7), (1, 14)), 7, [0]))

    def test_nothing_is_told_where_the_greatest_coefficient_may_not_divide(self):
        self.assertFalse(leaves_rest_at(names(0), in_one_name((0, 1), (1, 31)), 31 * 37, [0]))

    def test_division_tells_the_same_with_any_number(self):
        chance = random.Random(803)
        kinds = []
        for _ in range(400):
            n = chance.choice((1, 1, 2, 3))
            base = chance.choice((2, 3, -6, 31))
            factors = [some_sum(chance, n, chance.randint(1, 3), 1, 6) for _ in range(3)]
            factors += [geometric(n, power_of_name(n, 0, 1), base, chance.randint(1, 6), chance.choice((1, 37)))[0],
                        geometric(n, power_of_name(n, 0, 1), base, 1, 1)[1]]
            one = product_of(n, *chance.choices(factors, k=3))
            other = product_of(n, *chance.choices(factors, k=chance.randint(1, 2)))
            if one == () or other == ():
                continue
            wanted = plain_over(one, other)
            modulus = chance.choice(SOME_NUMBERS)
            look = (modulus, [chance.randrange(modulus) for _ in range(n)])
            with mock.patch("dartwebs.points.modulus_and_points", lambda *_: look):
                with mock.patch("dartwebs.division.MOST_PAIRS", 1):
                    found = outcome(divided, n, one, other)
            if wanted[0] == "value" and len(wanted[1]) > 1:
                self.assertEqual(found[2], {"most": 1}, (one, other, look))
            else:
                self.assertEqual(found, wanted, (one, other, look))
            kinds.append(found[1].__name__ if found[0] == "error" else "value")
        for kind in ("value", "NotEven", "TooLong"):
            self.assertGreater(kinds.count(kind), 10, kind)


class TheNumberAndThePoints(unittest.TestCase):
    def test_a_number_that_divides_by_all_below_it(self):
        for pairs in (names(0), names(3, many=-1), row_of_ones(500), binomial(6, 5, -1000, 1000)):
            n = len(pairs[0][0])
            modulus, points = modulus_and_points(n, pairs)
            self.assertEqual(modulus_and_points(n, pairs), (modulus, points))
            self.assertEqual(len(points), n)
            self.assertGreater(modulus, 2 ** 64)
            # Fermat's test to several bases, as a prime passes it.
            self.assertEqual([pow(base, modulus - 1, modulus) for base in (2, 3, 5, 7, 11, 13)], [1] * 6)

    def test_they_hang_on_all_of_the_sums(self):
        # A multiple of any number may be added to a coefficient, and the number is another one.
        base = 31 ** 501
        found = [modulus_and_points(1, in_one_name((0, base), (501, 1)) + in_one_name((0, 31), (1, 1)))]
        for more in [2 ** power for power in range(0, 2400, 61)] + [2 ** 127 - 1, 2 ** 61 - 1, 10 ** 300, found[0][0]]:
            for many in (base + more, base - more, -base - more):
                pairs = in_one_name((0, many), (501, 1)) + in_one_name((0, 31), (1, 1))
                found.append(modulus_and_points(1, pairs))
        for powers in (-501, 500, 502):
            found.append(modulus_and_points(1, in_one_name((0, base), (powers, 1)) + in_one_name((0, 31), (1, 1))))
        self.assertEqual(len({modulus for modulus, _ in found}), len(found))
        self.assertEqual(len({points[0] for _, points in found}), len(found))

    def test_no_rest_in_long_divisions_that_come_out(self):
        for base, factor in itertools.product((-31, -1, 1, 2, 31, 10 ** 20), (1, 6, FITS_ONE_NAME[0])):
            one, other = geometric(1, (1,), base, 601, factor)
            self.assertFalse(leaves_rest_at_points(1, one, other))
            self.assertTrue(leaves_rest_at_points(1, plus(1, one, names(300)), other))


if __name__ == "__main__":
    unittest.main()
