"""Points [8] and [9]: lots, the numbers behind rows of turns, and their values."""

import itertools
import random
import unittest
from fractions import Fraction

from dartwebs.errors import BadCount, BadLot, BadRow, BadShares, BadWeb, NoNode, NotEven, TooGreat, TooLong
from dartwebs.lots import first_lot, lot_behind, numbers, values, wholes
from dartwebs.shares import value
from dartwebs.sums import sum_text
from dartwebs.webs import is_web, turned, web_of

from tests.test_shares import SPOILT_SHARES, right_shares, some_shares
from tests.test_sums import GREAT, LONG, SPOILT_SUMS, UNEVEN, names, plain_over, plain_plus, plain_times, right_sum
from tests.test_sums import some_sum
from tests.values import check_arguments, in_good_time, is_int, outcome, outcome_unchanged, right_count, told

MOST = 10 ** 300
A_TREE = web_of(4, ((0, 1, 1), (2, 1, 1), (2, 3, 1)))
D_TREE = web_of(4, ((0, 1, 1), (1, 2, 1), (1, 3, 1)))
E_TREE = web_of(6, ((0, 1, 1), (1, 2, 1), (3, 2, 1), (3, 4, 1), (2, 5, 1)))
RING = web_of(3, ((0, 1, 1), (1, 2, 1), (2, 0, 1)))


def pair(many):
    return ((0, many), (-many, 0))


def some_web(chance, n, most, part=0.7):
    triples = []
    for y, z in itertools.combinations(range(n), 2):
        if chance.random() < part:
            triples.append((*chance.choice(((y, z), (z, y))), chance.randint(1, most)))
    return web_of(n, tuple(triples))


def some_row(chance, n, many):
    return tuple(chance.randrange(n) for _ in range(many))


def plain_behind(web, lot, x):
    """The outcome of a turn, taken step by step as the document tells it."""
    n = len(web)
    products = [names(*(0,) * n), names(*(0,) * n)]
    for y in range(n):
        if web[y][x] != 0:
            side = 0 if web[y][x] > 0 else 1
            power = names(*(0,) * n)
            for _ in range(abs(web[y][x])):
                found = plain_times(power, lot[y])
                if found[0] == "error":
                    return found
                power = found[1]
            found = plain_times(products[side], power)
            if found[0] == "error":
                return found
            products[side] = found[1]
    found = plain_plus(*products)
    if found[0] == "error":
        return found
    found = plain_over(found[1], lot[x])
    if found[0] == "error":
        return found
    return ("value", lot[:x] + (found[1],) + lot[x + 1:])


def plain_numbers(web, row):
    found = ("value", first_lot(len(web)))
    for x in row:
        found = plain_behind(web, found[1], x)
        if found[0] == "error":
            return found
        behind = outcome(turned, web, x)
        if behind[0] == "error":
            return behind
        web = behind[1]
    return found


def is_beyond(share):
    return share.numerator > MOST or share.denominator > MOST


def plain_values(web, row, shares):
    found = [Fraction(*share) for share in shares]
    n = len(web)
    for x in row:
        products = [Fraction(1), Fraction(1)]
        for y in range(n):
            for _ in range(abs(web[y][x])):
                side = 0 if web[y][x] > 0 else 1
                products[side] *= found[y]
                if is_beyond(products[side]):
                    return GREAT
        found[x] = sum(products) / found[x]
        behind = outcome(turned, web, x)
        if is_beyond(found[x]) or behind[0] == "error":
            return GREAT
        web = behind[1]
    return ("value", tuple((share.numerator, share.denominator) for share in found))


def right_row(n, value):
    return type(value) is tuple and len(value) <= 200 and all(is_int(x) and 0 <= x < n for x in value)


def right_lot(n, value):
    return type(value) is tuple and len(value) == n and all(right_sum(n, one) and one != () for one in value)


WEB = (pair(1), is_web, BadWeb)
ROW = ((0, 1), lambda web, value: right_row(len(web), value), BadRow)
NAME = names(1, 0)
SPOILT_LOTS = (
    [NAME, NAME],
    (NAME,),
    (NAME, NAME, NAME),
    (NAME, ()),
    ((), NAME),
    (NAME, list(NAME)),
    (NAME, names(1)),
    (NAME, names(1, 0, 0)),
    (NAME, names(1, True)),
    (NAME, names(1, 0, many=0)),
    (NAME, names(1, 0, many=True)),
    (NAME, names(1001, 0)),
    (NAME, None),
    {NAME: NAME},
) + tuple((NAME, spoilt) for spoilt in SPOILT_SUMS[::3])
SPOILT_ROWS = ([0, 1], (0, 2), (-1,), (True,), (0, False), (0, "1"), (0, None), (0,) * 201, ((0,),), 1.0)


class FirstLot(unittest.TestCase):
    def test_counts(self):
        check_arguments(self, first_lot, ((3, right_count, BadCount),), (2.0, (3,), "3"))
        for n in (0, 7, -1, 8):
            self.assertEqual(outcome(first_lot, n), told(BadCount))

    def test_names(self):
        self.assertEqual(first_lot(1), (names(1),))
        self.assertEqual(first_lot(2), (names(1, 0), names(0, 1)))
        for n in range(1, 7):
            self.assertEqual([sum_text(n, one) for one in first_lot(n)], [f"x{x}" for x in range(n)])
            self.assertTrue(right_lot(n, first_lot(n)))


class LotBehind(unittest.TestCase):
    def check(self, web, lot, x, wanted):
        self.assertEqual(outcome_unchanged(lot_behind, web, lot, x), wanted)
        self.assertEqual(plain_behind(web, lot, x), wanted)

    def test_arguments(self):
        lot = (((names(1, 0), names(0, 1))), lambda web, value: right_lot(len(web), value), BadLot)
        node = (1, lambda web, _, value: is_int(value) and 0 <= value < len(web), NoNode)
        check_arguments(self, lot_behind, (WEB, lot, node), SPOILT_LOTS + (2, 1.0))

    def test_order_of_errors(self):
        lot = first_lot(2)
        self.assertEqual(outcome(lot_behind, ((0, 1), (1, 0)), None, 5), told(BadWeb))
        self.assertEqual(outcome(lot_behind, pair(1), first_lot(3), 5), told(BadLot))
        self.assertEqual(outcome(lot_behind, pair(1), (lot[0], ()), 2), told(BadLot))
        self.assertEqual(outcome(lot_behind, pair(1), lot, 2), told(NoNode))
        self.assertEqual(outcome(lot_behind, pair(3), (names(0, 1000), names(0, 1000)), 2), told(NoNode))

    def test_nodes_without_arrows(self):
        self.check(((0,),), (names(1),), 0, ("value", (names(-1, many=2),)))
        self.check(((0,),), (names(-3, many=-2),), 0, ("value", (names(3, many=-1),)))
        self.check(pair(0), first_lot(2), 1, ("value", (names(1, 0), names(0, -1, many=2))))
        self.check(((0,),), (names(0, many=3),), 0, UNEVEN)

    def test_arrows_one_way_alone(self):
        self.check(pair(1), first_lot(2), 0, ("value", ((((-1, 0), 1), ((-1, 1), 1)), names(0, 1))))
        self.check(pair(-1), first_lot(2), 0, ("value", ((((-1, 0), 1), ((-1, 1), 1)), names(0, 1))))
        web = web_of(3, ((0, 1, 2), (2, 1, 1)))
        self.check(web, first_lot(3), 1, ("value", (names(1, 0, 0), (((0, -1, 0), 1), ((2, -1, 1), 1)), names(0, 0, 1))))

    def test_arrows_both_ways(self):
        web = web_of(4, ((0, 1, 2), (1, 2, 3), (1, 3, 1)))
        found = lot_behind(web, first_lot(4), 1)
        self.assertEqual([sum_text(4, one) for one in found], ["x0", "x1^-1*x2^3*x3 + x0^2*x1^-1", "x2", "x3"])

    def test_many_arrows(self):
        web = pair(1000)
        self.check(web, first_lot(2), 0, ("value", ((((-1, 0), 1), ((-1, 1000), 1)), names(0, 1))))
        self.check(web, (names(1, 0), names(0, 2)), 0, GREAT)
        self.check(web, (names(1, 0), names(0, -1, many=-1)), 0,
                   ("value", ((((-1, -1000), 1), ((-1, 0), 1)), names(0, -1, many=-1))))
        lone = names(1, 0)
        found = outcome(lot_behind, web, (lone, names(0, 0, many=2)), 0)
        self.assertEqual(found, ("value", (names(-1, 0, many=2 ** 1000 + 1), names(0, 0, many=2))))
        two = (((0, 0), 1), ((0, 1), 1))
        self.assertEqual(len(lot_behind(pair(499), (lone, two), 0)[0]), 500)
        self.check(pair(500), (lone, two), 0, LONG)

    def test_bad_lots(self):
        for lot in SPOILT_LOTS:
            self.assertEqual(outcome_unchanged(lot_behind, pair(1), lot, 0), told(BadLot), repr(lot)[:200])

    def test_division_that_does_not_come_out(self):
        one = (((0, 0), 1), ((0, 1), 1))
        self.check(pair(1), (one, names(0, 1)), 0, ("value", (names(0, 0), names(0, 1))))
        self.check(pair(1), (one, names(0, 1, many=2)), 0, UNEVEN)
        self.check(pair(2), (one, names(0, 1)), 0, UNEVEN)
        self.check(pair(3), (one, names(0, 1)), 0,
                   ("value", ((((0, 0), 1), ((0, 1), -1), ((0, 2), 1)), names(0, 1))))
        self.check(pair(1), (names(0, 0, many=2), names(0, 1)), 0, UNEVEN)

    def test_what_the_division_brings(self):
        one = (((0, 0), 1), ((0, 1), 1))
        self.assertEqual(len(lot_behind(pair(499), (one, names(0, 1)), 0)[0]), 499)
        self.check(pair(500), (one, names(0, 1)), 0, UNEVEN)
        self.check(pair(501), (one, names(0, 1)), 0, LONG)
        self.check(pair(1), (names(1000, 0), names(-1, 0)), 0, GREAT)
        self.check(pair(1), (names(0, 1000), names(0, -2)), 0, GREAT)

    def test_sum_that_cancels(self):
        web = web_of(3, ((0, 1, 1), (1, 2, 1)))
        lot = (names(1, 0, 0), names(0, 1, 0), names(1, 0, 0, many=-1))
        self.check(web, lot, 1, ("value", (lot[0], (), lot[2])))

    def test_powers_by_themselves(self):
        # x0^600 twice is too great by itself, though not behind x0^-1000.
        web = web_of(3, ((0, 2, 1), (1, 2, 2)))
        low, high, lone = names(-1000, 0, 0), names(600, 0, 0), names(0, 0, 1)
        self.check(web, (low, high, lone), 2, GREAT)
        self.check(web, (names(-900, 0, 0), names(500, 0, 0), lone), 2,
                   ("value", (names(-900, 0, 0), names(500, 0, 0), (((0, 0, -1), 1), ((100, 0, -1), 1)))))

    def test_products_by_ascending_nodes(self):
        web = web_of(4, ((0, 3, 1), (1, 3, 1), (2, 3, 1)))
        lone = names(0, 0, 0, 1)
        some = (names(1000, 0, 0, 0), names(600, 0, 0, 0), names(-1000, 0, 0, 0))
        for order in itertools.permutations(range(3)):
            lot = tuple(some[at] for at in order) + (lone,)
            # The great ones are too great unless the low one is between or ahead of them.
            found = outcome_unchanged(lot_behind, web, lot, 3)
            self.assertEqual(found, plain_behind(web, lot, 3))
            self.assertEqual(found == GREAT, order[2] == 2)

    def test_which_error_comes_first(self):
        far = names(600, 0, 0)
        wide = tuple(((0, power, 0), 1) for power in range(300))
        lone = names(0, 0, 1)
        for there, back in ((0, 1), (1, 0)):
            for ways in itertools.product((False, True), repeat=2):
                triples = tuple((2, y, 2) if turn else (y, 2, 2) for y, turn in enumerate(ways))
                web = web_of(3, triples)
                lot = (far, wide) if there == 0 else (wide, far)
                self.check(web, lot + (lone,), 2, GREAT if there == 0 else LONG)

    def test_power_ahead_of_the_product(self):
        # The product of the nodes 0 and 1 comes ahead of the power of node 2.
        web = web_of(4, ((0, 3, 1), (1, 3, 1), (3, 2, 2)))
        wide = tuple(((0, power, 0, 0), 1) for power in range(300))
        high = tuple(((power, 0, 0, 0), 1) for power in range(2))
        far, lone = names(0, 0, 600, 0), names(0, 0, 0, 1)
        self.check(web, (wide, high, far, lone), 3, LONG)
        self.check(web, (wide, names(0, 0, 0, 0), far, lone), 3, GREAT)
        # The power of node 1 comes ahead of its product with node 0.
        web = web_of(4, ((0, 3, 1), (1, 3, 2)))
        self.check(web, (names(0, 1000, 0, 0), wide, lone, lone), 3, LONG)
        self.check(web, (wide, names(0, 501, 0, 0), lone, lone), 3, GREAT)

    def test_sum_of_both_products(self):
        web = web_of(3, ((0, 2, 1), (2, 1, 1)))
        wide = tuple(((0, power, 0), 1) for power in range(300))
        high = tuple(((1, power, 0), 1) for power in range(300))
        self.check(web, (wide, high, names(0, 0, 1)), 2, LONG)
        self.check(web, (wide, high, names(0, 0, 0, many=2)), 2, LONG)
        self.check(web, (wide, high[:200], names(0, 0, 0, many=2)), 2, UNEVEN)
        self.assertEqual(len(lot_behind(web, (wide, high[:200], names(0, 0, 1)), 2)[2]), 500)
        self.check(web, (wide, high[:201], names(0, 0, 1)), 2, LONG)
        self.check(web, (wide, tuple((powers, -many) for powers, many in wide[1:]), names(0, 0, 1)), 2,
                   ("value", (wide, tuple((powers, -many) for powers, many in wide[1:]), names(0, 0, -1))))

    def test_against_the_plain_way(self):
        chance = random.Random(81)
        kinds = []
        for _ in range(600):
            n = chance.randint(1, 4)
            web = some_web(chance, n, chance.choice((1, 2, 4)))
            most = chance.choice((1, 2, 300))
            lot = tuple(some_sum(chance, n, chance.choice((1, 1, 2, 9, 60)), most, 2) for _ in range(n))
            x = chance.randrange(n)
            if chance.random() < 0.5:
                lot = lot[:x] + (some_sum(chance, n, 1, most, 1),) + lot[x + 1:]
            wanted = plain_behind(web, lot, x)
            self.assertEqual(outcome_unchanged(lot_behind, web, lot, x), wanted)
            kinds.append(wanted[0] if wanted[0] == "value" else wanted[1])
        for kind in ("value", NotEven, TooLong, TooGreat):
            self.assertGreater(kinds.count(kind), 10, kind)


class Numbers(unittest.TestCase):
    def test_arguments(self):
        check_arguments(self, numbers, (WEB, ROW), SPOILT_ROWS)
        self.assertEqual(outcome(numbers, ((0, 1), (1, 0)), (7,)), told(BadWeb))
        self.assertEqual(outcome(numbers, pair(1), (0,) * 201), told(BadRow))

    def test_no_turns(self):
        for n in range(1, 7):
            self.assertEqual(numbers(((0,) * n,) * n, ()), first_lot(n))

    def test_turn_by_turn(self):
        chance = random.Random(82)
        for web in (A_TREE, D_TREE, E_TREE, RING, pair(2)):
            row = some_row(chance, len(web), 9)
            lot, behind = first_lot(len(web)), web
            for x in row:
                lot, behind = lot_behind(behind, lot, x), turned(behind, x)
            self.assertEqual(outcome_unchanged(numbers, web, row), ("value", lot))

    def test_two_turns_at_one_node(self):
        chance = random.Random(83)
        for _ in range(40):
            n = chance.randint(1, 6)
            web = some_web(chance, n, 2, 0.5)
            row = some_row(chance, n, chance.randint(0, 4))
            found = outcome(numbers, web, row)
            for x in range(n):
                self.assertIn(outcome(numbers, web, row + (x, x)), (found, LONG, GREAT))
                if found[0] == "value" and outcome(numbers, web, row + (x,))[0] == "value":
                    self.assertEqual(numbers(web, row + (x, x)), found[1])
        self.assertEqual(numbers(E_TREE, (2, 5, 2, 2, 5, 2)), first_lot(6))

    def test_five_turns_at_two_nodes(self):
        web = pair(1)
        self.assertEqual(numbers(web, (0, 1, 0, 1, 0)), first_lot(2)[::-1])
        for web in (A_TREE, D_TREE, E_TREE, RING):
            n = len(web)
            for x, y in itertools.permutations(range(n), 2):
                five = (x, y, x, y, x)
                lot = list(first_lot(n))
                if web[x][y] != 0:
                    lot[x], lot[y] = lot[y], lot[x]
                    self.assertEqual(numbers(web, five), tuple(lot))
                else:
                    self.assertEqual(numbers(web, five[:4]), tuple(lot))

    def test_all_coefficients_above_nought(self):
        chance = random.Random(84)
        for _ in range(60):
            n = chance.randint(1, 6)
            web = some_web(chance, n, chance.choice((1, 1, 2)), chance.choice((0.3, 0.6)))
            found = outcome(numbers, web, some_row(chance, n, 6))
            if found[0] == "error":
                self.assertIn(found, (LONG, GREAT))
            else:
                self.assertTrue(right_lot(n, found[1]))
                self.assertTrue(all(many > 0 for one in found[1] for _, many in one))

    def test_against_the_plain_way(self):
        chance = random.Random(85)
        for _ in range(150):
            n = chance.randint(1, 4)
            web = some_web(chance, n, chance.choice((1, 2, 3)))
            row = some_row(chance, n, chance.randint(1, 6))
            self.assertEqual(outcome_unchanged(numbers, web, row), plain_numbers(web, row), (web, row))

    def test_too_great_exponents(self):
        self.assertEqual(len(numbers(pair(31), (0, 1))[1]), 33)
        self.assertEqual(outcome_unchanged(numbers, pair(32), (0, 1)), GREAT)
        self.assertEqual(outcome(numbers, pair(1000), (0,))[0], "value")
        self.assertEqual(outcome(numbers, pair(1000), (0, 1)), GREAT)
        self.assertEqual(numbers(pair(1000), (0, 0)), first_lot(2))

    def test_too_long_by_and_by(self):
        many = 0
        while outcome(numbers, pair(2), ((0, 1) * 50)[:many + 1])[0] == "value":
            many += 1
        self.assertGreater(many, 15)
        self.assertEqual(outcome_unchanged(numbers, pair(2), ((0, 1) * 50)[:many + 1]), LONG)
        self.assertEqual(plain_numbers(pair(2), ((0, 1) * 50)[:many + 1]), LONG)
        self.assertEqual(outcome(numbers, pair(2), (0, 1) * 100), LONG)

    def test_turn_by_turn_the_number_ahead_of_the_web(self):
        web = web_of(3, ((0, 1, 40), (1, 2, 40)))
        self.assertEqual(outcome(turned, web, 1), GREAT)
        self.assertEqual(outcome(numbers, web, (1,)), GREAT)
        web = web_of(3, ((1, 0, 5), (2, 1, 5)))
        behind = turned(turned(web, 1), 0)
        self.assertEqual(outcome(turned, behind, 2), GREAT)
        self.assertEqual(outcome_unchanged(numbers, web, (1, 0, 2)), LONG)
        # The web of an earlier turn is ahead of the number of a later one.
        web = web_of(6, ((0, 1, 40), (1, 2, 40), (3, 4, 5), (4, 5, 5)))
        self.assertEqual(outcome(numbers, web, (4, 5, 3)), LONG)
        self.assertEqual(outcome(numbers, web, (1, 4, 5, 3)), GREAT)
        self.assertEqual(outcome(numbers, web, (4, 5, 1, 3)), GREAT)

    def test_long_rows(self):
        chance = random.Random(86)
        with in_good_time():
            self.assertEqual(numbers(pair(1), (0, 1) * 100), first_lot(2))
            self.assertEqual(numbers(pair(1000), (0,) * 200), first_lot(2))
            for web in (A_TREE, D_TREE, E_TREE):
                n = len(web)
                row = some_row(chance, n, 100)
                found = numbers(web, row)
                self.assertTrue(right_lot(n, found))
                self.assertEqual(numbers(web, row + row[::-1]), first_lot(n))
                self.assertEqual(tuple(sum(many for _, many in one) for one in found), wholes(web, row))


class Values(unittest.TestCase):
    def check(self, web, row, shares, wanted):
        self.assertEqual(outcome_unchanged(values, web, row, shares), wanted)
        self.assertEqual(plain_values(web, row, shares), wanted)

    def test_arguments(self):
        shares = (((1, 2), (3, 1)), lambda web, _, value: right_shares(len(web), value), BadShares)
        check_arguments(self, values, (WEB, ROW, shares), SPOILT_ROWS + SPOILT_SHARES)

    def test_order_of_errors(self):
        self.assertEqual(outcome(values, None, None, None), told(BadWeb))
        self.assertEqual(outcome(values, pair(1), (2,), None), told(BadRow))
        self.assertEqual(outcome(values, pair(1), (0,), ((2, 2), (1, 1))), told(BadShares))
        great = web_of(3, ((0, 1, 40), (1, 2, 40)))
        self.assertEqual(outcome(values, great, (1,), ((1, 1),) * 2), told(BadShares))
        self.assertEqual(outcome(values, great, (1, 3), ((1, 1),) * 3), told(BadRow))

    def test_no_turns(self):
        self.check(pair(7), (), ((10 ** 6, 1), (1, 10 ** 6)), ("value", ((10 ** 6, 1), (1, 10 ** 6))))

    def test_some(self):
        self.check(pair(1), (0, 1), ((1, 2), (3, 1)), ("value", ((8, 1), (3, 1))))
        self.check(((0,),), (0,), ((3, 5),), ("value", ((10, 3),)))
        self.check(((0,),), (0, 0), ((3, 5),), ("value", ((3, 5),)))

    def test_against_numbers_and_value(self):
        chance = random.Random(91)
        both = 0
        for _ in range(200):
            n = chance.randint(1, 6)
            web = some_web(chance, n, chance.choice((1, 2)), chance.choice((0.3, 0.6)))
            row = some_row(chance, n, chance.randint(0, 7))
            shares = some_shares(chance, n, chance.choice((3, 30)))
            found, lot = outcome_unchanged(values, web, row, shares), outcome(numbers, web, row)
            self.assertEqual(found, plain_values(web, row, shares))
            if found[0] == "value" and lot[0] == "value":
                both += 1
                self.assertEqual(found[1], tuple(value(n, one, shares) for one in lot[1]))
        self.assertGreater(both, 100)

    def test_shares_that_are_all_one(self):
        chance = random.Random(92)
        for _ in range(100):
            n = chance.randint(1, 6)
            web = some_web(chance, n, 2)
            row = some_row(chance, n, chance.randint(0, 9))
            found, other = outcome(wholes, web, row), outcome(values, web, row, ((1, 1),) * n)
            if found[0] == "value":
                self.assertEqual(other, ("value", tuple((number, 1) for number in found[1])))
            else:
                self.assertEqual([found, other], [GREAT, GREAT])

    def test_too_many_arrows(self):
        web = web_of(3, ((0, 1, 40), (1, 2, 40)))
        ones = ((1, 1),) * 3
        self.check(web, (1,), ones, GREAT)
        self.check(web, (0, 2, 1), ones, GREAT)
        self.check(web, (0, 2, 0, 2), ones, ("value", ones))

    def test_products_at_the_bound(self):
        # 10^300 + 1 is a multiple of 73.
        self.assertEqual((MOST + 1) % 73, 0)
        part = (MOST + 1) // 73
        high, low, third = (10 ** 6, 1), (1, 10 ** 6), (73, 1)
        self.check(pair(50), (1,), (high, third), ("value", (high, (part, 1))))
        self.check(pair(-50), (1,), (high, third), ("value", (high, (part, 1))))
        self.check(pair(50), (1,), (low, third), ("value", (low, (part, MOST))))
        self.check(pair(51), (1,), (high, third), GREAT)
        self.check(pair(51), (1,), (low, third), GREAT)
        self.check(pair(51), (1,), (high, (10 ** 6, 1)), GREAT)
        self.check(pair(1000), (1,), (low, third), GREAT)
        self.check(pair(50), (1,), (high, (1, 1)), GREAT)
        self.check(pair(50), (1,), (low, (1, 1)), GREAT)

    def test_numbers_at_the_bound(self):
        # Both products are 10^300; their sum is no product on the way, but the number counts.
        web = web_of(5, ((0, 4, 25), (1, 4, 25), (4, 2, 25), (4, 3, 25)))
        high, low = (10 ** 6, 1), (1, 10 ** 6)
        self.check(web, (4,), (high,) * 4 + ((2, 1),), ("value", (high,) * 4 + ((MOST, 1),)))
        self.check(web, (4,), (high,) * 4 + ((1, 1),), GREAT)
        self.check(web, (4,), (low,) * 4 + ((2, 1),), ("value", (low,) * 4 + ((1, MOST),)))
        self.check(web, (4,), (low,) * 4 + ((3, 1),), GREAT)
        self.check(web, (4,), (high,) * 4 + ((3, 1),), GREAT)

    def test_a_factor_at_a_time_by_ascending_nodes(self):
        # 10^306 on the way is too great, also where a later factor would bring it down again.
        high, low = (10 ** 6, 1), (1, 10 ** 6)
        down = web_of(3, ((0, 2, 51), (1, 2, 51)))
        up = web_of(4, ((0, 3, 1), (1, 3, 51), (2, 3, 1)))
        for web in (down, tuple(tuple(-many for many in line) for line in down)):
            self.check(web, (2,), (high, low, (1, 1)), GREAT)
            self.check(web, (2,), (low, high, (1, 1)), GREAT)
        self.check(up, (3,), (low, high, (1, 1), (73, 1)), ("value", (low, high, (1, 1), ((MOST + 1) // 73, 1))))
        self.check(up, (3,), ((1, 1), high, low, (73, 1)), GREAT)

    def test_lowest_terms_on_the_way(self):
        web = web_of(3, ((0, 2, 50), (1, 2, 50)))
        near = (10 ** 6, 999999)
        self.check(web, (2,), (near, near[::-1], (1, 1)), ("value", (near, near[::-1], (2, 1))))
        self.check(web, (2,), ((10 ** 6, 1), (1, 10 ** 6), (7, 3)), ("value", ((10 ** 6, 1), (1, 10 ** 6), (6, 7))))

    def test_shares_behind_many_turns(self):
        chance = random.Random(93)
        for web in (A_TREE, D_TREE, E_TREE):
            n = len(web)
            row = some_row(chance, n, 100)
            shares = some_shares(chance, n, 9)
            self.assertEqual(values(web, row + row[::-1], shares), shares)
            self.check(web, row, shares, plain_values(web, row, shares))


class Wholes(unittest.TestCase):
    def test_arguments(self):
        check_arguments(self, wholes, (WEB, ROW), SPOILT_ROWS)

    def test_some(self):
        self.assertEqual(wholes(((0,),), (0,)), (2,))
        self.assertEqual(wholes(pair(1), (0, 1)), (2, 3))
        self.assertEqual(wholes(pair(2), (0, 1, 0, 1)), (13, 34))
        self.assertEqual(wholes(E_TREE, ()), (1,) * 6)

    def test_against_numbers(self):
        chance = random.Random(94)
        for _ in range(100):
            n = chance.randint(1, 6)
            web = some_web(chance, n, chance.choice((1, 2)), 0.5)
            row = some_row(chance, n, chance.randint(0, 7))
            found, lot = outcome_unchanged(wholes, web, row), outcome(numbers, web, row)
            if lot[0] == "value" and found[0] == "value":
                self.assertEqual(found[1], tuple(sum(many for _, many in one) for one in lot[1]))

    def test_at_the_bound(self):
        # At two nodes with w arrows the numbers are 2 and 2^w + 1.
        self.assertEqual(2 ** 996 <= MOST < 2 ** 997, True)
        self.assertEqual(outcome(wholes, pair(996), (0, 1)), ("value", (2, 2 ** 996 + 1)))
        self.assertEqual(outcome_unchanged(wholes, pair(997), (0, 1)), GREAT)
        self.assertEqual(outcome(wholes, pair(1000), (0, 1)), GREAT)
        self.assertEqual(wholes(pair(1000), (0,) * 199), (2, 1))

    def test_too_many_arrows(self):
        self.assertEqual(outcome(wholes, web_of(3, ((0, 1, 40), (1, 2, 40))), (1,)), GREAT)

    def test_many_arrows_in_good_time(self):
        web = web_of(6, tuple((0, x, 1000) for x in range(1, 6)))
        with in_good_time():
            self.assertEqual(wholes(web, (0,) * 200), (1,) * 6)
