"""Points [6] and [7]: sums, what is reckoned with them, and their texts."""

import itertools
import random
import unittest
from fractions import Fraction

from dartwebs.errors import BadCount, BadSum, ByNought, NotEven, TooGreat, TooLong
from dartwebs.sums import below, is_sum, over, plus, sum_text, times

from tests.values import check_arguments, in_good_time, is_int, outcome, outcome_unchanged, right_count, told

LONG = told(TooLong, most=500)
GREAT = told(TooGreat)
UNEVEN = told(NotEven)


def names(*powers, many=1):
    """The sum of one product of names."""
    return ((powers, many),)


def in_one_name(*pairs):
    """The sum of one name with these pairs of an exponent and a coefficient."""
    return tuple(((power,), many) for power, many in sorted(pairs))


def row_of_ones(many, first=0):
    return in_one_name(*((power, 1) for power in range(first, first + many)))


def power_of_name(n, name, power):
    return tuple(power if at == name else 0 for at in range(n))


def binomial(n, name, low, high, one=-1, other=1):
    """one times a power of a name and other times another power of it."""
    return ((power_of_name(n, name, low), one), (power_of_name(n, name, high), other))


def product_of(n, *sums):
    found = names(*(0,) * n)
    for one in sums:
        found = times(n, found, one)
    return found


def right_sum(n, value):
    """Whether the value is a sum, told pair by pair."""
    if type(value) is not tuple or len(value) > 500:
        return False
    before = None
    for pair in value:
        if type(pair) is not tuple or len(pair) != 2 or type(pair[0]) is not tuple or len(pair[0]) != n:
            return False
        if not all(is_int(power) and -1000 <= power <= 1000 for power in pair[0]):
            return False
        if not is_int(pair[1]) or pair[1] == 0 or (before is not None and pair[0] <= before):
            return False
        before = pair[0]
    return True


def some_sum(chance, n, many, most, great=9):
    """A sum of up to so many pairs with exponents up to most."""
    table = {}
    for _ in range(many):
        powers = tuple(chance.randint(-most, most) for _ in range(n))
        table[powers] = chance.choice((-1, 1)) * chance.randint(1, great)
    return tuple(sorted(table.items()))


def plain_end(table):
    """The outcome that is the sum of a table, with what is too much for a sum."""
    found = tuple(sorted((powers, many) for powers, many in table.items() if many != 0))
    if len(found) > 500:
        return LONG
    if any(abs(power) > 1000 for powers, _ in found for power in powers):
        return GREAT
    return ("value", found)


def plain_plus(one, other):
    table = {}
    for powers, many in one + other:
        table[powers] = table.get(powers, 0) + many
    return plain_end(table)


def plain_times(one, other):
    table = {}
    for (powers, many), (more, factor) in itertools.product(one, other):
        key = tuple(map(sum, zip(powers, more)))
        table[key] = table.get(key, 0) + many * factor
    return plain_end(table)


def plain_over(one, other):
    """Long division with fractions from the greatest pair on, within the box of what can come."""
    rest = {powers: Fraction(many) for powers, many in one}
    n = len(other[0][0])
    ends = [tuple((min(powers[at] for powers, _ in told), max(powers[at] for powers, _ in told)) for at in range(n))
            for told in (one or other, other)]
    found = {}
    while rest:
        top = max(rest)
        step = tuple(power - less for power, less in zip(top, other[-1][0]))
        if any(not ends[0][at][0] - ends[1][at][0] <= step[at] <= ends[0][at][1] - ends[1][at][1] for at in range(n)):
            return UNEVEN
        factor = rest[top] / other[-1][1]
        found[step] = factor
        for powers, many in other:
            key = tuple(map(sum, zip(step, powers)))
            rest[key] = rest.get(key, 0) - factor * many
            if rest[key] == 0:
                del rest[key]
    if any(factor.denominator != 1 for factor in found.values()):
        return UNEVEN
    return plain_end({powers: int(factor) for powers, factor in found.items()})


SPOILT_SUMS = (
    [((0, 0), 1)],
    ([(0, 0), 1],),
    (([0, 0], 1),),
    (((0, 0), 0),),
    (((0, 0), True),),
    (((0, True), 1),),
    (((False, 0), 1),),
    (((0, 0), None),),
    (((0, 0), "1"),),
    (((0, 0), (1,)),),
    (((0, 0), 1.0),),
    (((0, 0.0), 1),),
    (((0, 0), 1, 1),),
    (((0, 0),),),
    ((0, 0), 1),
    ((1, (0, 0)),),
    (((0,), 1),),
    (((0, 0, 0), 1),),
    (((), 1),),
    (((0, 1001), 1),),
    (((-1001, 0), 1),),
    (((0, 10 ** 400), 1),),
    (((0, 0), 1), ((0, 0), 1)),
    (((0, 1), 1), ((0, 0), 1)),
    (((1, 0), 1), ((0, 5), 1)),
    (((0, 0), 1), None),
    {(0, 0): 1},
    "x0",
)


class IsSum(unittest.TestCase):
    def check(self, n, value, wanted):
        self.assertEqual(outcome_unchanged(is_sum, n, value), ("value", wanted), (n, repr(value)[:300]))
        if not wanted:
            self.assertEqual(outcome(plus, n, value, ()), told(BadSum))

    def test_nought(self):
        for n in range(1, 7):
            self.check(n, (), True)
            self.check(n, [], False)

    def test_exponents(self):
        for power in (0, 1, 1000, -1000):
            self.check(1, names(power), True)
            self.check(3, names(0, power, -3), True)
        for power in (1001, -1001, 10 ** 400, True, False, None, "1", (1,), 1.0):
            self.check(1, names(power), False)
            for at in range(3):
                self.check(3, (((2,) * at + (power,) + (2,) * (2 - at), 1),), False)

    def test_exponents_of_another_length(self):
        for n, many in itertools.product(range(1, 7), range(8)):
            self.check(n, (((0,) * many, 1),), n == many)

    def test_coefficients(self):
        for many in (1, -1, 7, 10 ** 400, -(10 ** 4000)):
            self.check(2, names(0, 0, many=many), True)
        for many in (0, True, False, None, "1", (1,), [1], 1.0, {}):
            self.check(2, names(0, 0, many=many), False)

    def test_order(self):
        self.check(2, (((-1, 5), 1), ((0, -5), 1), ((0, 0), 1), ((1, -9), 1)), True)
        self.check(2, (((0, 0), 1), ((-1, 5), 1)), False)
        self.check(2, (((0, 0), 1), ((0, 0), 2)), False)
        self.check(2, (((0, 0), 1), ((0, 1), 1), ((0, 0), 1)), False)
        pairs = [((0, 0), 3), ((0, 1), 2), ((1, 0), 1)]
        for some in itertools.permutations(pairs):
            self.check(2, some, list(some) == pairs)

    def test_lengths(self):
        self.check(1, row_of_ones(500, -100), True)
        self.check(1, row_of_ones(501, -100), False)
        self.check(1, row_of_ones(1501, -750), False)
        self.check(2, tuple(((0, power), -1) for power in range(500)), True)
        self.check(2, tuple(((0, power), -1) for power in range(501)), False)

    def test_other_kinds(self):
        for value in SPOILT_SUMS:
            self.check(2, value, False)

    def test_count(self):
        check_arguments(self, is_sum, ((2, right_count, BadCount), ((), None, None)), SPOILT_SUMS + (6, 7, 2.0))
        for n in range(-1, 9):
            wanted = ("value", True) if 1 <= n <= 6 else told(BadCount)
            self.assertEqual(outcome(is_sum, n, ()), wanted)


class Arguments(unittest.TestCase):
    def test_two_sums(self):
        count = (2, right_count, BadCount)
        one = (((((-1, 0), 1), ((0, 3), -2))), right_sum, BadSum)
        other = ((((0, 1), 1),), lambda n, _, value: right_sum(n, value), BadSum)
        for function in (plus, times, over):
            check_arguments(self, function, (count, one, other), SPOILT_SUMS)

    def test_one_sum(self):
        count = (2, right_count, BadCount)
        one = (((((-1, 0), 1), ((0, 3), -2))), right_sum, BadSum)
        for function in (sum_text, below):
            check_arguments(self, function, (count, one), SPOILT_SUMS)

    def test_sums_of_other_names(self):
        for n in range(1, 7):
            right, wrong = names(*(1,) * n), names(*(1,) * (n % 6 + 1))
            for function in (plus, times, over):
                self.assertEqual(outcome(function, n, right, right)[0], "value")
                self.assertEqual(outcome(function, n, wrong, right), told(BadSum))
                self.assertEqual(outcome(function, n, right, wrong), told(BadSum))

    def test_bad_sum_ahead_of_all_else(self):
        long = row_of_ones(501)
        self.assertEqual(outcome(over, 1, long, ()), told(BadSum))
        self.assertEqual(outcome(times, 1, names(1000), names(1001)), told(BadSum))
        self.assertEqual(outcome(plus, 1, row_of_ones(500), long), told(BadSum))


class Plus(unittest.TestCase):
    def test_some(self):
        self.assertEqual(plus(2, names(1, 0), names(0, 1)), (((0, 1), 1), ((1, 0), 1)))
        self.assertEqual(plus(1, names(-3, many=2), names(-3, many=5)), names(-3, many=7))
        self.assertEqual(plus(1, names(1000), names(-1000)), in_one_name((-1000, 1), (1000, 1)))

    def test_pairs_that_cancel(self):
        one = in_one_name((-2, 3), (0, 1), (7, -1))
        self.assertEqual(plus(1, one, in_one_name((-2, -3), (0, -1), (7, 1))), ())
        self.assertEqual(plus(1, one, in_one_name((0, -1), (5, 2))), in_one_name((-2, 3), (5, 2), (7, -1)))
        great = names(0, many=10 ** 4000)
        self.assertEqual(plus(1, great, names(0, many=1 - 10 ** 4000)), names(0))

    def test_nought(self):
        one = in_one_name((-2, 3), (0, 1))
        self.assertEqual([plus(1, (), one), plus(1, one, ()), plus(1, (), ())], [one, one, ()])

    def test_too_long(self):
        self.assertEqual(len(plus(1, row_of_ones(499), names(-1))), 500)
        self.assertEqual(outcome_unchanged(plus, 1, row_of_ones(500), names(-1)), LONG)
        self.assertEqual(outcome(plus, 1, row_of_ones(500), row_of_ones(500, 1)), LONG)
        self.assertEqual(len(plus(1, row_of_ones(500), in_one_name((0, -1), (500, 1)))), 500)
        self.assertEqual(outcome(plus, 1, row_of_ones(500), row_of_ones(500, -500)), LONG)

    def test_against_the_plain_way(self):
        chance = random.Random(61)
        for _ in range(300):
            n = chance.randint(1, 6)
            one, other = (some_sum(chance, n, chance.randint(0, 12), 1, 3) for _ in range(2))
            self.assertEqual(outcome_unchanged(plus, n, one, other), plain_plus(one, other))


class Times(unittest.TestCase):
    def test_some(self):
        one = in_one_name((0, 1), (1, 1))
        self.assertEqual(times(1, one, one), in_one_name((0, 1), (1, 2), (2, 1)))
        self.assertEqual(times(2, names(-3, 1, many=-2), names(1, 1, many=7)), names(-2, 2, many=-14))

    def test_pairs_that_cancel(self):
        one = binomial(2, 1, 0, 1)
        self.assertEqual(times(2, one, binomial(2, 1, 0, 1, 1, 1)), binomial(2, 1, 0, 2))
        self.assertEqual(times(1, binomial(1, 0, 0, 1), row_of_ones(500)), binomial(1, 0, 0, 500))

    def test_nought(self):
        one = in_one_name((-2, 3), (0, 1))
        self.assertEqual([times(1, (), one), times(1, one, ()), times(1, (), ())], [(), (), ()])

    def test_too_long(self):
        self.assertEqual(len(times(1, row_of_ones(250), row_of_ones(251))), 500)
        self.assertEqual(outcome_unchanged(times, 1, row_of_ones(251), row_of_ones(251)), LONG)
        wide = tuple(((0, power), 1) for power in range(500))
        self.assertEqual(outcome(times, 2, wide, tuple(((power, 0), 1) for power in range(500))), LONG)

    def test_too_great(self):
        self.assertEqual(times(1, names(500), names(500)), names(1000))
        self.assertEqual(times(1, names(-1000), names(1000)), names(0))
        for one, other in ((500, 501), (1000, 1000), (-1000, -1), (-501, -500)):
            self.assertEqual(outcome_unchanged(times, 1, names(one), names(other)), GREAT)
            self.assertEqual(outcome(times, 3, names(0, one, 1), names(0, other, -1)), GREAT)
        self.assertEqual(outcome(times, 1, in_one_name((0, 1), (1000, 1)), in_one_name((0, 1), (1, 1))), GREAT)

    def test_too_long_ahead_of_too_great(self):
        self.assertEqual(outcome(times, 1, row_of_ones(251, 750), row_of_ones(251)), LONG)
        self.assertEqual(outcome(times, 1, row_of_ones(250, 751), row_of_ones(251)), GREAT)

    def test_exponents_beyond_that_cancel(self):
        # The greatest powers of a name never cancel all, as their factors aren't nought.
        one, other = binomial(2, 1, 0, 1, 1, 1), binomial(2, 1, 0, 1)
        far = names(600, 0)
        self.assertEqual(outcome(times, 2, times(2, far, one), times(2, far, other)), GREAT)
        near = names(500, 0)
        self.assertEqual(times(2, times(2, near, one), times(2, near, other)), (((1000, 0), -1), ((1000, 2), 1)))
        self.assertEqual(times(1, binomial(1, 0, 0, 500), binomial(1, 0, 0, 500, 1, 1)), binomial(1, 0, 0, 1000))

    def test_great_coefficients(self):
        one = in_one_name((0, 10 ** 2000), (1, -1))
        self.assertEqual(times(1, one, one), in_one_name((0, 10 ** 4000), (1, -2 * 10 ** 2000), (2, 1)))

    def test_against_the_plain_way(self):
        chance = random.Random(62)
        for most in (1, 3, 400, 600):
            for _ in range(150):
                n = chance.randint(1, 6)
                one, other = (some_sum(chance, n, chance.randint(0, 30), most, 3) for _ in range(2))
                self.assertEqual(outcome_unchanged(times, n, one, other), plain_times(one, other))


class Over(unittest.TestCase):
    def back(self, n, one, other):
        self.assertEqual(over(n, times(n, one, other), other), one)

    def test_products_are_divided_back(self):
        chance = random.Random(63)
        for most, great in ((1, 1), (2, 3), (5, 10 ** 40), (500, 9)):
            for _ in range(100):
                n = chance.randint(1, 6)
                one, other = (some_sum(chance, n, chance.randint(1, 22), most, great) for _ in range(2))
                self.assertEqual(over(n, times(n, one, other), one), other)
                self.back(n, one, other)

    def test_long_sums_are_divided_back(self):
        chance = random.Random(64)
        with in_good_time():
            for n, (many, more) in itertools.product((1, 2, 6), ((1, 500), (5, 100), (22, 22))):
                self.back(n, some_sum(chance, n, many, 400), some_sum(chance, n, more, 600))
                self.back(n, some_sum(chance, n, more, 400), some_sum(chance, n, many, 600))
            one, other = (in_one_name(*((power, chance.randint(1, 9)) for power in range(250))) for _ in range(2))
            self.back(1, one, other)
            self.back(1, row_of_ones(500), in_one_name((0, -1), (1, 1)))

    def test_signs(self):
        one = in_one_name((-3, -2), (-1, 5), (4, -1))
        for other in (in_one_name((-2, -1)), in_one_name((-7, 3), (-6, -3)), in_one_name((5, -4), (9, -6), (11, 1))):
            self.back(1, one, other)
            self.back(1, other, one)

    def test_one_pair(self):
        self.assertEqual(over(2, (((0, 1), 6), ((3, 0), -9)), names(1, -1, many=-3)), (((-1, 2), -2), ((2, 1), 3)))
        self.assertEqual(over(2, names(0, 0), names(5, -7, many=-1)), names(-5, 7, many=-1))
        self.assertEqual(outcome(over, 2, (((0, 1), 6), ((3, 0), -8)), names(0, 0, many=3)), UNEVEN)

    def test_nought(self):
        for other in (names(0), names(3, many=-5), row_of_ones(500)):
            self.assertEqual(over(1, (), other), ())

    def test_by_nought(self):
        for one in ((), names(0), names(1, many=7), row_of_ones(500)):
            self.assertEqual(outcome_unchanged(over, 1, one, ()), told(ByNought))

    def test_where_a_coefficient_does_not_divide(self):
        cases = (
            (1, names(2, many=3), names(1, many=2)),
            (1, names(0), names(0, many=-2)),
            (1, in_one_name((0, 1), (1, 1)), in_one_name((0, 2), (1, 2))),
            (1, in_one_name((0, -1), (2, 1)), in_one_name((0, 2), (1, 2))),
            (1, in_one_name((0, 2), (1, 3)), names(0, many=2)),
            (2, (((0, 1), 3), ((1, 0), 3)), (((0, 1), 2), ((1, 0), 2))),
            (1, names(0, many=10 ** 400 + 1), names(0, many=10 ** 200)),
        )
        for n, one, other in cases:
            self.assertEqual(outcome_unchanged(over, n, one, other), UNEVEN, (one, other))
            self.assertEqual(plain_over(one, other), UNEVEN)

    def test_where_a_rest_is_left(self):
        cases = (
            (1, in_one_name((0, 1), (2, 1)), in_one_name((0, 1), (1, 1))),
            (1, names(0), in_one_name((0, 1), (1, 1))),
            (1, in_one_name((0, 1), (1, 1)), in_one_name((0, 1), (2, 1))),
            (2, binomial(2, 0, 0, 1), binomial(2, 1, 0, 1)),
            (2, binomial(2, 0, 0, 1), (((0, 1), 1), ((1, 0), 1))),
            (2, times(2, binomial(2, 0, 0, 1), binomial(2, 1, 0, 1)), product_of(2, *(binomial(2, 0, 0, 1),) * 2)),
            (1, in_one_name((0, 1), (1, 4), (2, 4)), in_one_name((0, 1), (1, 3))),
        )
        for n, one, other in cases:
            self.assertEqual(outcome_unchanged(over, n, one, other), UNEVEN, (one, other))
            self.assertEqual(plain_over(one, other), UNEVEN)

    def test_against_the_plain_way(self):
        chance = random.Random(65)
        found = []
        for _ in range(1500):
            n = chance.choice((1, 1, 2, 3))
            one = some_sum(chance, n, chance.randint(1, 4), 2, 4)
            other = some_sum(chance, n, chance.randint(1, 3), 1, 2)
            if chance.random() < 0.5:
                one = times(n, one, some_sum(chance, n, 2, 1, 2))
                other = some_sum(chance, n, 1, 1, 2) if chance.random() < 0.3 else other
            found.append(outcome(over, n, one, other))
            self.assertEqual(found[-1], plain_over(one, other), (one, other))
        self.assertGreater(found.count(UNEVEN), 300)
        self.assertGreater(len(found) - found.count(UNEVEN), 300)

    def test_factors_taken_one_by_one(self):
        # A factor that is there too seldom, or under another name, leaves a rest.
        chance = random.Random(66)
        for _ in range(60):
            n = chance.randint(1, 4)
            factors = [binomial(n, chance.randrange(n), 0, chance.randint(1, 3), chance.choice((-1, 1, 2)))
                       for _ in range(4)]
            one = product_of(n, *factors[:3])
            for some in itertools.combinations_with_replacement(factors, 2):
                other = product_of(n, *some)
                self.assertEqual(outcome(over, n, one, other), plain_over(one, other), (one, other))

    def test_factors_that_are_nought_at_plain_points(self):
        for many in (-1, 1, -2, 2, -3):
            for name, other in itertools.permutations(range(6), 2):
                common = binomial(6, name, 0, 1, many, 1)
                one, wrong = binomial(6, other, 0, 1, 5), binomial(6, other, 0, 1, 7)
                self.assertEqual(outcome(over, 6, times(6, common, one), times(6, common, wrong)), UNEVEN)
                long = binomial(6, other, 0, 1000)
                self.assertEqual(outcome(over, 6, times(6, common, long), times(6, common, wrong)), UNEVEN)

    def test_too_long(self):
        one = binomial(1, 0, 0, 1)
        self.assertEqual(over(1, binomial(1, 0, 0, 500), one), row_of_ones(500))
        for power in (501, 502, 1000):
            self.assertEqual(outcome_unchanged(over, 1, binomial(1, 0, 0, power), one), LONG)
        self.assertEqual(outcome(over, 1, binomial(1, 0, -1000, 1000), one), LONG)
        self.assertEqual(outcome(over, 1, binomial(1, 0, -1000, 1000), binomial(1, 0, 0, 4))[0], "value")
        self.assertEqual(outcome(over, 2, (((0, 1000), -1), ((1000, 0), 1)), (((0, 1), -1), ((1, 0), 1))), LONG)
        self.assertEqual(outcome(over, 2, (((0, 999), 1), ((999, 0), 1)), (((0, 1), 1), ((1, 0), 1))), LONG)
        for many in (1, 3, -2):
            three = binomial(1, 0, 0, 1000, -many, many)
            self.assertEqual(outcome(over, 1, three, one), LONG)

    def test_far_too_long(self):
        with in_good_time():
            above = product_of(6, *(binomial(6, name, -1000, 1000) for name in range(6)))
            self.assertEqual(outcome(over, 6, above, product_of(6, *(binomial(6, at, 0, 1) for at in range(6)))), LONG)
            self.assertEqual(outcome(over, 6, above, binomial(6, 5, -1, 1)), LONG)
            half = product_of(6, *(binomial(6, at, 0, 1000) for at in range(6)))
            self.assertEqual(over(6, above, half),
                             product_of(6, *(binomial(6, at, -1000, 0, 1, 1) for at in range(6))))

    def test_too_great(self):
        self.assertEqual(over(1, names(0), names(1000)), names(-1000))
        self.assertEqual(over(1, names(500), names(-500)), names(1000))
        for one, other in ((500, -501), (1000, -1000), (-1000, 1), (-1, 1000)):
            self.assertEqual(outcome_unchanged(over, 1, names(one), names(other)), GREAT)
            self.assertEqual(outcome(over, 3, names(0, one, 1), names(0, other, 2)), GREAT)

    def test_order(self):
        self.assertEqual(outcome(over, 1, in_one_name((1000, 3)), names(-1000, many=2)), UNEVEN)
        self.assertEqual(outcome(over, 1, binomial(1, 0, 0, 1000, -2), binomial(1, 0, 0, 1)), UNEVEN)
        self.assertEqual(outcome(over, 1, binomial(1, 0, 0, 1000), binomial(1, 0, 0, 1, -2, 2)), UNEVEN)
        self.assertEqual(outcome(over, 1, binomial(1, 0, 0, 1000), binomial(1, 0, -500, -499)), LONG)
        self.assertEqual(outcome(over, 1, binomial(1, 0, 600, 1000), binomial(1, 0, -500, -499)), GREAT)

    def test_what_does_not_come_out_is_told_in_good_time(self):
        chance = random.Random(67)
        ones = product_of(6, *(binomial(6, name, 0, 1) for name in range(6)))
        above = product_of(6, *(binomial(6, name, -1000, 1000) for name in range(6)))
        great = in_one_name(*((power, 10 ** 1000 + power) for power in range(499)), (499, 1))
        with in_good_time():
            for n in range(1, 7):
                one, other = some_sum(chance, n, 500, 1000), some_sum(chance, n, 300, 500)
                self.assertEqual(outcome(over, n, one, other), UNEVEN)
            self.assertEqual(outcome(over, 6, plus(6, above, names(*(0,) * 6)), ones), UNEVEN)
            self.assertEqual(outcome(over, 6, above, plus(6, ones, names(*(0,) * 6))), UNEVEN)
            self.assertEqual(outcome(over, 1, row_of_ones(500), great), UNEVEN)
            self.assertEqual(outcome(over, 1, row_of_ones(500, 400), in_one_name((0, -10 ** 100), (1, 1))), UNEVEN)
            self.assertEqual(outcome(over, 2, (((0, 1000), 1), ((1000, 0), 1)), (((0, 1), 1), ((1, 0), 1))), UNEVEN)
            self.assertEqual(outcome(over, 1, binomial(1, 0, -1000, 1000, -1, 2), binomial(1, 0, 0, 1)), UNEVEN)

    def test_great_coefficients(self):
        one = in_one_name((0, 10 ** 400), (3, -1), (5, 10 ** 1000 + 1))
        self.back(1, one, one)
        self.back(1, one, in_one_name((-1, 7 ** 300), (0, -(10 ** 300))))
        self.assertEqual(outcome(over, 1, plus(1, times(1, one, one), names(5)), one), UNEVEN)


class SumText(unittest.TestCase):
    def check(self, n, value, wanted):
        self.assertEqual(outcome_unchanged(sum_text, n, value), ("value", wanted))

    def test_nought(self):
        for n in range(1, 7):
            self.check(n, (), "0")

    def test_coefficients_alone(self):
        for many in (1, -1, 2, -17, 10 ** 400):
            self.check(3, names(0, 0, 0, many=many), str(many))

    def test_coefficients_with_names(self):
        for many, wanted in ((1, "x1"), (-1, "-1*x1"), (2, "2*x1"), (-30, "-30*x1")):
            self.check(2, names(0, 1, many=many), wanted)

    def test_exponents(self):
        for power, wanted in ((1, "x0"), (2, "x0^2"), (-1, "x0^-1"), (1000, "x0^1000"), (-1000, "x0^-1000")):
            self.check(1, names(power), wanted)
        self.check(6, names(1, 0, -2, 3, 0, 1, many=-4), "-4*x0*x2^-2*x3^3*x5")
        self.check(6, names(1, 1, 1, 1, 1, 1), "x0*x1*x2*x3*x4*x5")

    def test_order(self):
        told = (((-1, 2), 1), ((0, -1), -1), ((0, 0), 1), ((0, 1), 5), ((1, 0), 1))
        self.check(2, told, "x0^-1*x1^2 + -1*x1^-1 + 1 + 5*x1 + x0")

    def test_very_great_coefficients(self):
        # Python's own str refuses integers of more than 4300 digits.
        digits = "9876543210" * 600
        for text in ("1" + "0" * 5000, "1" * 512, "1" + "0" * 512, "9" * 1024, digits, digits + "0" * 1500 + "7"):
            number = 0
            for at in range(0, len(text), 100):
                number = number * 10 ** len(text[at:at + 100]) + int(text[at:at + 100])
            self.assertEqual(sum_text(1, names(0, many=number)), text)
            self.assertEqual(sum_text(1, names(2, many=-number)), f"-{text}*x0^2")


class Below(unittest.TestCase):
    def check(self, n, value, wanted):
        self.assertEqual(outcome_unchanged(below, n, value), ("value", wanted))

    def test_nought(self):
        for n in range(1, 7):
            self.check(n, (), (0,) * n)

    def test_some(self):
        self.check(2, (((0, 0), 1), ((3, 1), 1)), (0, 0))
        self.check(2, names(2, 5), (0, 0))
        self.check(2, names(-2, 5), (2, 0))
        self.check(3, (((-1, 2, -4), 1), ((0, 1, -7), -1), ((5, 0, 0), 2)), (1, 0, 7))
        self.check(3, (((-3, 0, 1), 1), ((-2, -1, 1), 1), ((-2, 0, 0), 1)), (3, 1, 0))
        self.check(1, in_one_name((-1000, 1), (1000, 1)), (1000,))
        self.check(6, names(-1, 1, -1, 1, -1, 1), (1, 0, 1, 0, 1, 0))
