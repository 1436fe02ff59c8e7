"""Points [23] and [24]: beats of trees, and rows of numbers of steady webs."""

import itertools
import random
import unittest
from fractions import Fraction

from dartwebs.beats import beat, beats, is_steady, sides, steady_row
from dartwebs.errors import BadShares, BadTimes, BadWeb, NotSteady, NoTree
from dartwebs.joined import all_numbers
from dartwebs.lots import first_lot, numbers, values
from dartwebs.roots import lots_count, numbers_count, roots
from dartwebs.sums import below
from dartwebs.webs import is_web, renamed, turned, web_of

from tests.shapes import E_TREE, OTHER_TREES, TREES, beside, fork, path, ring, star, with_names, with_ways, zeros
from tests.test_classing import SPOILT_WEBS
from tests.test_lots import WEB, is_beyond, some_web
from tests.test_shares import SPOILT_SHARES, right_shares, some_shares
from tests.test_sums import GREAT, LONG
from tests.test_webs import pair, small_webs
from tests.values import check_arguments, in_good_time, is_int, outcome, outcome_unchanged, told

NO_TREE = told(NoTree)
BAD_TIMES = told(BadTimes)
NOT_STEADY = told(NotSteady)
BEATS = {"A2": 5, "A3": 6, "A4": 7, "A5": 8, "A6": 9, "D4": 8, "D5": 10, "D6": 12, "E6": 14}
FOUR = ((0, 1, -2, 1), (-1, 0, 3, -2), (2, -3, 0, 1), (-1, 2, -1, 0))

NO_TREES = (
    ((0,),), zeros(2), zeros(6), pair(2), pair(-1000), ring(3), ring(4), ring(6), beside(path(2), path(2)),
    beside(path(3), path(1)), web_of(3, ((0, 1, 1), (1, 2, 2))), web_of(3, ((0, 1, 2),)),
    web_of(4, ((0, 1, 1), (1, 2, 1), (2, 0, 1), (2, 3, 1))), star(5), star(6), *OTHER_TREES,
)


def some_trees(seed):
    """The kind and the web, for trees with other names and arrows any way."""
    chance = random.Random(seed)
    for name, tree in TREES.items():
        if name != "A1":
            yield name, tree
            for _ in range(3):
                yield name, with_names(chance, with_ways(chance, tree))


def plain_sides(web):
    """The sides, by adding neighbours step by step."""
    found = [{0}, set()]
    for _ in range(6):
        for at in (0, 1):
            found[1 - at] |= {z for y in found[at] for z in range(len(web)) if web[y][z] != 0}
    return tuple(sorted(found[0])), tuple(sorted(found[1]))


def straightened(web):
    """The web with all arrows from the first side to the second."""
    first, _ = plain_sides(web)
    return tuple(tuple((1 if y in first else -1) * abs(many) for many in line) for y, line in enumerate(web))


def row_of_beats(web, many):
    row = ()
    for at in range(many):
        row += plain_sides(web)[at % 2]
    return row


def steady_web(first):
    """The web with this first row that is steady if there is one, by the rule row after row."""
    n = len(first)
    table = [[0] * n for _ in range(n)]
    for z in range(n):
        table[0][z], table[z][0] = first[z], -first[z]
    for y in range(1, n):
        for z in range(1, n):
            ways = max(0, table[y][0]) * max(0, table[0][z]) - max(0, table[z][0]) * max(0, table[0][y])
            table[y][z] = table[y - 1][z - 1] - ways
    return tuple(map(tuple, table))


def plain_steady(web):
    behind = turned(web, 0)
    n = len(web)
    called = [[0] * n for _ in range(n)]
    for y, z in itertools.product(range(n), repeat=2):
        called[y - 1 if y else n - 1][z - 1 if z else n - 1] = behind[y][z]
    return tuple(map(tuple, called)) == web


def some_steady_webs(seed, most=3):
    """Steady webs of one to six nodes: their first rows read the same from both ends."""
    chance = random.Random(seed)
    for n in range(1, 7):
        for _ in range(12):
            half = [chance.randint(-most, most) for _ in range(n)]
            first = [0] + [half[min(at, n - 2 - at)] for at in range(n - 1)]
            web = steady_web(first)
            if is_web(web):
                yield web


def plain_row(web, shares, many):
    n = len(web)
    row = [Fraction(*share) for share in shares]
    while len(row) < many:
        last = row[-n:]
        products = [Fraction(1), Fraction(1)]
        for y in range(n):
            for _ in range(abs(web[y][0])):
                side = 0 if web[y][0] > 0 else 1
                products[side] *= last[y]
                if is_beyond(products[side]):
                    return GREAT
        row.append(sum(products) / last[0])
        if is_beyond(row[-1]):
            return GREAT
    return ("value", tuple((share.numerator, share.denominator) for share in row[:many]))



class Arguments(unittest.TestCase):
    def check_web(self, function, *others):
        """What is no web is told ahead of what is no such tree or no steady web."""
        for value in SPOILT_WEBS + (None, True, 0, "", (), [], {}, 10 ** 400, ((False,),)):
            self.assertEqual(outcome_unchanged(function, value, *others), told(BadWeb), repr(value))

    def test_trees(self):
        web = (path(3), is_web, BadWeb)
        for function in (sides, beat):
            self.check_web(function)
            check_arguments(self, lambda value: outcome_of_trees(function, value), (web,), SPOILT_WEBS)

    def test_trees_and_times(self):
        self.check_web(beats, 3)
        self.check_web(beats, 41)
        for many in (-1, 41, 10 ** 400, -(10 ** 400), True, False, None, "3", (3,), [3], 2.0, {}):
            self.assertEqual(outcome_unchanged(beats, path(3), many), BAD_TIMES)
            self.assertEqual(outcome_unchanged(beats, pair(2), many), NO_TREE)
            self.assertEqual(outcome_unchanged(beats, zeros(1), many), NO_TREE)

    def test_is_steady(self):
        check_arguments(self, is_steady, (WEB,), SPOILT_WEBS)
        self.check_web(is_steady)

    def test_steady_rows(self):
        self.check_web(steady_row, ((1, 1),) * 2, 5)
        self.check_web(steady_row, None, None)
        # All webs among the odd values are steady.
        web = (pair(1), is_web, BadWeb)
        shares = (((1, 2), (3, 1)), lambda web, value: right_shares(len(web), value), BadShares)
        times = (5, lambda web, _, value: is_int(value) and 0 <= value <= 60, BadTimes)
        check_arguments(self, steady_row, (web, shares, times), SPOILT_SHARES + (60, 61, 2.0))

    def test_order_of_errors_of_steady_rows(self):
        line = path(3)
        self.assertEqual(outcome(steady_row, line, None, None), NOT_STEADY)
        self.assertEqual(outcome(steady_row, line, ((1, 1),) * 3, 61), NOT_STEADY)
        self.assertEqual(outcome(steady_row, FOUR, ((1, 1),) * 3, 61), told(BadShares))
        self.assertEqual(outcome(steady_row, FOUR, ((2, 2),) * 4, None), told(BadShares))
        for many in (-1, 61, True, False, None, "5", (5,), 10 ** 400):
            self.assertEqual(outcome_unchanged(steady_row, FOUR, ((1, 1),) * 4, many), BAD_TIMES)


def outcome_of_trees(function, web):
    """The value for trees; the web itself for what is a web but no such tree."""
    try:
        return function(web)
    except NoTree:
        return web


class Sides(unittest.TestCase):
    def test_trees(self):
        for _, web in some_trees(2301):
            self.assertEqual(outcome_unchanged(sides, web), ("value", plain_sides(web)))

    def test_some(self):
        self.assertEqual(sides(pair(-1)), ((0,), (1,)))
        self.assertEqual(sides(path(5)), ((0, 2, 4), (1, 3)))
        self.assertEqual(sides(star(4)), ((0,), (1, 2, 3)))
        self.assertEqual(sides(E_TREE), ((0, 2, 4), (1, 3, 5)))

    def test_what_is_no_such_tree(self):
        for web in NO_TREES:
            for function in (sides, beat):
                self.assertEqual(outcome_unchanged(function, web), NO_TREE, web)
            for many in (0, 1, 40):
                self.assertEqual(outcome_unchanged(beats, web, many), NO_TREE)

    def test_all_small_webs(self):
        for web in itertools.chain(small_webs(2, 2), small_webs(3, 2), small_webs(4, 1)):
            # Up to four nodes all trees are of kind A or D.
            wanted = len(web) > 1 and outcome(roots, web)[0] == "value" and len(set().union(*plain_sides(web))) == len(web)
            self.assertEqual(outcome(sides, web) == ("value", plain_sides(web)), wanted)
            self.assertEqual(outcome(beat, web)[0] == "value", wanted)


class Beats(unittest.TestCase):
    def test_no_beats(self):
        for _, web in some_trees(2302):
            self.assertEqual(outcome_unchanged(beats, web, 0), ("value", first_lot(len(web))))

    def test_against_numbers(self):
        for name, web in some_trees(2303):
            for many in (1, 2, 3, 4, 7) if name != "E6" else (1, 2, 3):
                found = outcome_unchanged(beats, web, many)
                self.assertEqual(found, outcome(numbers, straightened(web), row_of_beats(web, many)))
                self.assertEqual(found[0], "value")

    def test_ways_of_the_arrows_make_no_difference(self):
        chance = random.Random(2304)
        for name, web in some_trees(2305):
            self.assertEqual(beats(with_ways(chance, web), 3), beats(web, 3))
            self.assertEqual(beat(with_ways(chance, web)), BEATS[name])

    def test_back_behind_so_many_beats(self):
        with in_good_time():
            for name, web in some_trees(2306):
                self.assertEqual(outcome_unchanged(beat, web), ("value", BEATS[name]))
                if name == "E6":
                    continue
                first = sorted(first_lot(len(web)))
                for many in range(1, BEATS[name] + 1):
                    self.assertEqual(sorted(beats(web, many)) == first, many == BEATS[name])
                if BEATS[name] % 2 == 0:
                    # As many once more bring all back to its place.
                    self.assertEqual(beats(web, 2 * BEATS[name]), first_lot(len(web)))

    def test_each_number_comes_just_once(self):
        for name, web in some_trees(2307):
            if name == "E6":
                continue
            names = first_lot(len(web))
            found, before = [], names
            for many in range(1, BEATS[name] + 1):
                lot = beats(web, many)
                side = sides(web)[(many - 1) % 2]
                self.assertTrue(all(lot[x] == before[x] for x in range(len(web)) if x not in side))
                found += [lot[x] for x in side if lot[x] not in names]
                before = lot
            self.assertEqual(len(found), len(set(found)))
            self.assertEqual(len(found), numbers_count(web) - len(web))
            self.assertEqual(tuple(sorted(below(len(web), one) for one in found)), roots(web))
            if lots_count(web) <= 150:
                self.assertEqual(tuple(sorted(found + list(names))), all_numbers(straightened(web)))

    def test_values_of_the_tree_of_kind_e(self):
        # Its numbers become too long on the way, their values don't.
        chance = random.Random(2308)
        for web in (E_TREE, with_names(chance, with_ways(chance, E_TREE)), with_names(chance, E_TREE)):
            shares = some_shares(chance, 6, 10 ** 4)
            found, before = [], shares
            for many in range(1, 15):
                behind = values(straightened(web), row_of_beats(web, many), shares)
                self.assertEqual(sorted(behind) == sorted(shares), many == 14)
                found += [behind[x] for x in sides(web)[(many - 1) % 2] if behind[x] not in shares]
            self.assertEqual([len(found), len(set(found))], [36, 36])
            self.assertEqual(beat(web), 14)

    def test_too_long(self):
        with in_good_time():
            told_beats = [outcome(beats, E_TREE, many) for many in range(41)]
        many = [found[0] for found in told_beats].index("error")
        self.assertGreater(many, 3)
        self.assertEqual(told_beats[many:], [LONG] * (41 - many))
        for at in (many - 1, many):
            self.assertEqual(outcome_unchanged(beats, E_TREE, at),
                             outcome(numbers, straightened(E_TREE), row_of_beats(E_TREE, at)))

    def test_forty_beats(self):
        with in_good_time():
            for name, web in (("A2", pair(-1)), ("A5", path(5)), ("D4", fork(4)), ("D5", fork(5))):
                self.assertEqual(40 % BEATS[name], 0)
                self.assertEqual(sorted(beats(web, 40)), sorted(first_lot(len(web))))
            self.assertEqual(sorted(beats(path(6), 36)), sorted(first_lot(6)))


class Steady(unittest.TestCase):
    def check(self, web, wanted):
        self.assertEqual(outcome_unchanged(is_steady, web), ("value", wanted), web)

    def test_one_node(self):
        self.check(((0,),), True)

    def test_two_nodes(self):
        for many in (0, 1, -1, 2, -2, 1000, -1000):
            self.check(pair(many), True)

    def test_all_small_webs(self):
        for web in itertools.chain(small_webs(3, 2), small_webs(4, 1)):
            self.check(web, plain_steady(web))

    def test_some(self):
        self.check(FOUR, True)
        self.check(tuple(tuple(-many for many in line) for line in FOUR), True)
        for n in range(3, 7):
            self.check(zeros(n), True)
            self.check(path(n), False)
            self.check(star(n), False)
        self.check(ring(3), False)

    def test_webs_of_first_rows(self):
        sizes = set()
        for web in some_steady_webs(2401):
            self.check(web, True)
            self.assertTrue(plain_steady(web))
            sizes.add(len(web))
            if len(web) > 2 and any(map(any, web)):
                table = [list(line) for line in web]
                table[0][1] += 1
                table[1][0] -= 1
                self.check(tuple(map(tuple, table)), False)
        self.assertEqual(sizes, {1, 2, 3, 4, 5, 6})

    def test_names_and_the_turn(self):
        for web in some_steady_webs(2402):
            n = len(web)
            order = tuple((x - 1) % n for x in range(n))
            self.assertEqual(renamed(turned(web, 0), order), web)

    def test_a_turn_that_is_too_great(self):
        great = web_of(3, ((1, 0, 1000), (0, 2, 1000)))
        self.assertEqual(outcome(turned, great, 0), GREAT)
        self.check(great, False)
        self.assertEqual(outcome(steady_row, great, None, None), NOT_STEADY)


class SteadyRow(unittest.TestCase):
    def check(self, web, shares, many):
        wanted = plain_row(web, shares, many)
        self.assertEqual(outcome_unchanged(steady_row, web, shares, many), wanted, (web, shares, many))
        return wanted

    def test_some(self):
        found = steady_row(FOUR, ((1, 1),) * 4, 11)
        self.assertEqual(found, tuple((top, 1) for top in (1, 1, 1, 1, 2, 3, 7, 23, 59, 314, 1529)))
        self.assertEqual(steady_row(((0,),), ((3, 5),), 4), ((3, 5), (10, 3), (3, 5), (10, 3)))
        self.assertEqual(steady_row(pair(1), ((1, 1), (2, 1)), 7),
                         ((1, 1), (2, 1), (3, 1), (2, 1), (1, 1), (1, 1), (2, 1)))
        self.assertEqual(steady_row(pair(2), ((1, 1), (1, 1)), 6), ((1, 1), (1, 1), (2, 1), (5, 1), (13, 1), (34, 1)))

    def test_against_the_rule(self):
        chance = random.Random(2403)
        for web in some_steady_webs(2404, 2):
            shares = some_shares(chance, len(web), chance.choice((1, 5, 40)))
            for many in (chance.randint(0, 25), len(web) + 3):
                self.check(web, shares, many)

    def test_few_numbers(self):
        chance = random.Random(2405)
        for web in some_steady_webs(2406):
            n = len(web)
            shares = some_shares(chance, n, 10 ** 6)
            for many in range(n + 1):
                self.assertEqual(outcome_unchanged(steady_row, web, shares, many), ("value", shares[:many]))

    def test_sixty_numbers(self):
        with in_good_time():
            for web in (((0,),), pair(0), pair(1), zeros(3), zeros(6), steady_web((0, 1, 1)), steady_web((0, 1, 0, 1))):
                if self.check(web, ((1, 1),) * len(web), 60)[0] == "value":
                    self.assertEqual(len(steady_row(web, ((1, 1),) * len(web), 60)), 60)
            # All 60 of some webs that go on for ever are within the bounds.
            self.assertEqual(self.check(pair(2), ((1, 1), (1, 1)), 60)[0], "value")
            for web in some_steady_webs(2407, 2):
                self.check(web, some_shares(random.Random(2408), len(web), 3), 60)

    def test_against_values(self):
        # A row of the web is what turns at 0, 1, 2, .. bring.
        chance = random.Random(2409)
        many = 0
        for web in some_steady_webs(2410, 2):
            n = len(web)
            shares = some_shares(chance, n, 9)
            for turns in (1, n, n + 2, 2 * n + 1):
                row = tuple(at % n for at in range(turns))
                found, told_values = outcome(steady_row, web, shares, n + turns), outcome(values, web, row, shares)
                if found[0] == "value" and told_values[0] == "value":
                    many += 1
                    for x in range(n):
                        last = max(at for at in range(n + turns) if at % n == x)
                        self.assertEqual(told_values[1][x], found[1][last])
        self.assertGreater(many, 100)

    def test_whole_numbers(self):
        for web in some_steady_webs(2411):
            for many in range(60, 0, -7):
                found = outcome(steady_row, web, ((1, 1),) * len(web), many)
                if found[0] == "value":
                    self.assertTrue(all(bottom == 1 for _, bottom in found[1]))
                    break

    def test_too_great(self):
        self.assertEqual(self.check(pair(3), ((1, 1), (1, 1)), 60), GREAT)
        for web in (pair(3), steady_web((0, 3, -1, 3)), pair(997), pair(1000)):
            many = 0
            while outcome(steady_row, web, ((1, 1),) * len(web), many)[0] == "value":
                many += 1
            self.assertGreater(many, len(web))
            self.assertEqual(self.check(web, ((1, 1),) * len(web), many), GREAT)
            self.assertEqual(self.check(web, ((1, 1),) * len(web), many - 1)[0], "value")
        # A product on the way is too great, though not the numbers that are told ahead of it.
        high = ((10 ** 6, 1), (10 ** 6, 1))
        self.assertEqual(self.check(pair(51), high, 3), GREAT)
        self.assertEqual(self.check(pair(51), high, 2)[0], "value")
