"""Points [2] and [3]: webs, their arrows, and turns at their nodes."""

import itertools
import unittest

from dartwebs.errors import BadArrows, BadCount, BadOrder, BadRow, BadWeb, NoNode, TooGreat
from dartwebs.webs import arrows, is_tree, is_web, parts, renamed, turned, turned_all, web_of

from tests.values import ODD_VALUES, outcome_unchanged, told

LONE = ((0,),)
LINE = web_of(3, ((0, 1, 1), (1, 2, 1)))
RING = web_of(3, ((0, 1, 1), (1, 2, 1), (2, 0, 1)))


def pair(many):
    return ((0, many), (-many, 0))


def zeros(n):
    return ((0,) * n,) * n


def by_ways(web, x):
    """The web behind a turn, counted way by way as the document tells it."""
    n = len(web)
    many = [[max(0, web[y][z]) for z in range(n)] for y in range(n)]
    ways = [(y, z, many[y][x] * many[x][z]) for y in range(n) for z in range(n)]
    for y, z, new in ways:
        many[y][z] += new
    for y in range(n):
        many[x][y], many[y][x] = many[y][x], many[x][y]
    return tuple(tuple(many[y][z] - many[z][y] for z in range(n)) for y in range(n))


def small_webs(n, most):
    """All webs of n nodes with numbers of arrows up to most."""
    pairs = list(itertools.combinations(range(n), 2))
    for numbers in itertools.product(range(-most, most + 1), repeat=len(pairs)):
        table = [[0] * n for _ in range(n)]
        for (y, z), many in zip(pairs, numbers):
            table[y][z], table[z][y] = many, -many
        yield tuple(map(tuple, table))


class IsWeb(unittest.TestCase):
    def test_numbers_of_rows(self):
        for n in range(1, 7):
            self.assertIs(is_web(zeros(n)), True, n)
        for n in (0, 7, 8):
            self.assertIs(is_web(zeros(n)), False, n)

    def test_rows_of_another_length(self):
        for value in (((),), ((0, 0),), ((0, 0), (0,)), ((0, 0), (0, 0, 0)), ((0, 0), ()), ((0, 0, 0), (0, 0, 0))):
            self.assertIs(is_web(value), False, value)

    def test_numbers_of_arrows(self):
        for many in (0, 1, -1, 1000, -1000):
            self.assertIs(is_web(pair(many)), True, many)
        for many in (1001, -1001, 10 ** 400, -(10 ** 400)):
            self.assertIs(is_web(pair(many)), False, many)

    def test_there_unlike_back(self):
        for value in (((0, 1), (1, 0)), ((0, 1), (0, 0)), ((0, 1), (-2, 0)), ((0, 0, 1), (0, 0, 0), (1, 0, 0))):
            self.assertIs(is_web(value), False, value)

    def test_diagonal(self):
        for value in (((1,),), ((-1,),), ((0, 0), (0, 2)), ((0, 1), (-1, -1))):
            self.assertIs(is_web(value), False, value)

    def test_other_kinds(self):
        for value in ODD_VALUES:
            wanted = value in (LONE, pair(1)) and "True" not in repr(value) and "False" not in repr(value)
            self.assertEqual(outcome_unchanged(is_web, value), ("value", wanted), repr(value))

    def test_kinds_inside(self):
        wrong = ([[0]], [(0,)], ([0],), ((False,),), ((None,),), (("0",),), ((0.0,),), ({0: 0},), {0: (0,)},
                 ((0, True), (-1, 0)), ((0, 1), [-1, 0]), ((False, 1), (-1, False)), "0", ("00", "00"))
        for value in wrong:
            self.assertIs(is_web(value), False, repr(value))


class TakesAWeb(unittest.TestCase):
    def test_bad_web_at_each(self):
        for value in ODD_VALUES:
            if is_web(value):
                continue
            for function, others in ((arrows, ()), (is_tree, ()), (parts, ()), (turned, (0,)),
                                     (turned_all, ((0,),)), (renamed, ((0,),))):
                found = outcome_unchanged(function, value, *others)
                self.assertEqual(found, told(BadWeb), (function.__name__, repr(value)))

    def test_bad_web_ahead_of_the_second(self):
        for web in (None, [[0]], ((False,),), ((0, 1), (1, 0))):
            for second in ODD_VALUES:
                for function in (turned, turned_all, renamed):
                    found = outcome_unchanged(function, web, second)
                    self.assertEqual(found, told(BadWeb), (function.__name__, web, repr(second)))

    def test_web_with_an_entry_beyond(self):
        for function, others in ((arrows, ()), (is_tree, ()), (parts, ()), (turned, (0,)),
                                 (turned_all, ((),)), (renamed, ((0, 1),))):
            self.assertEqual(outcome_unchanged(function, pair(1001), *others), told(BadWeb))
            self.assertEqual(outcome_unchanged(function, pair(1000), *others)[0], "value")


class Arrows(unittest.TestCase):
    def test_ascending_with_many_above_nought(self):
        self.assertEqual(arrows(LONE), ())
        self.assertEqual(arrows(zeros(6)), ())
        self.assertEqual(arrows(pair(1000)), ((0, 1, 1000),))
        self.assertEqual(arrows(pair(-7)), ((1, 0, 7),))
        self.assertEqual(arrows(RING), ((0, 1, 1), (1, 2, 1), (2, 0, 1)))
        self.assertEqual(arrows(web_of(4, ((3, 0, 2), (2, 1, 9), (0, 2, 1)))), ((0, 2, 1), (2, 1, 9), (3, 0, 2)))

    def test_web_of_its_arrows(self):
        for web in small_webs(3, 2):
            self.assertEqual(web_of(3, arrows(web)), web)
            self.assertEqual(list(arrows(web)), sorted(arrows(web)))


class WebOf(unittest.TestCase):
    def test_webs(self):
        self.assertEqual(web_of(1, ()), LONE)
        self.assertEqual(web_of(6, ()), zeros(6))
        self.assertEqual(web_of(2, ((1, 0, 1000),)), pair(-1000))
        self.assertEqual(web_of(3, ((2, 0, 3), (0, 1, 1))), ((0, 1, -3), (-1, 0, 0), (3, 0, 0)))

    def test_all_pairs_of_six(self):
        triples = tuple((y, z, y + z) for y, z in itertools.combinations(range(6), 2))
        self.assertEqual(arrows(web_of(6, triples)), triples)
        self.assertEqual(web_of(6, triples[::-1]), web_of(6, triples))

    def test_counts(self):
        for value in ODD_VALUES + (1.0, 8, -6):
            is_count = isinstance(value, int) and not isinstance(value, bool) and 1 <= value <= 6
            wanted = ("value", zeros(value)) if is_count else told(BadCount)
            self.assertEqual(outcome_unchanged(web_of, value, ()), wanted, repr(value))

    def test_count_ahead_of_the_triples(self):
        for n in (0, 7, True, None, "2", (2,), [2]):
            for triples in (None, [], ((0, 0, 0),), 5):
                self.assertEqual(outcome_unchanged(web_of, n, triples), told(BadCount))

    def test_triples_of_other_kinds(self):
        for value in ODD_VALUES:
            right = {"()": zeros(2), "((0, 1, 1),)": pair(1)}
            wanted = ("value", right[repr(value)]) if repr(value) in right else told(BadArrows)
            self.assertEqual(outcome_unchanged(web_of, 2, value), wanted, repr(value))

    def test_kinds_in_a_triple(self):
        for value in ODD_VALUES:
            whole = isinstance(value, int) and not isinstance(value, bool)
            for at, allowed in ((0, (0,)), (1, (1,)), (2, (1, 7))):
                triple = [0, 1, 1]
                triple[at] = value
                found = outcome_unchanged(web_of, 2, (tuple(triple),))
                if whole and value in allowed:
                    self.assertEqual(found, ("value", pair(triple[2])))
                else:
                    self.assertEqual(found, told(BadArrows), repr(triple))

    def test_wrong_triples(self):
        wrong = ([(0, 1, 1)], ([0, 1, 1],), ((0, 1),), ((0, 1, 1, 1),), (0, 1, 1), ((0, 1, 1), None), {(0, 1, 1): 0})
        for triples in wrong:
            self.assertEqual(outcome_unchanged(web_of, 2, triples), told(BadArrows), repr(triples))

    def test_numbers_of_arrows(self):
        for many in (1, 2, 999, 1000):
            self.assertEqual(web_of(2, ((0, 1, many),)), pair(many))
        for many in (0, -1, 1001, 10 ** 400):
            self.assertEqual(outcome_unchanged(web_of, 2, ((0, 1, many),)), told(BadArrows), many)

    def test_nodes(self):
        for triple in ((0, 3, 1), (3, 0, 1), (-1, 0, 1), (0, -1, 1), (0, 0, 1), (2, 2, 1), (10 ** 400, 0, 1)):
            self.assertEqual(outcome_unchanged(web_of, 3, (triple,)), told(BadArrows), triple)
        self.assertEqual(outcome_unchanged(web_of, 1, ((0, 1, 1),)), told(BadArrows))

    def test_a_pair_told_twice(self):
        for second in ((0, 1, 1), (0, 1, 2), (1, 0, 1), (1, 0, 5)):
            self.assertEqual(outcome_unchanged(web_of, 3, ((0, 1, 1), second)), told(BadArrows), second)
            self.assertEqual(outcome_unchanged(web_of, 3, ((0, 1, 1), (1, 2, 1), second)), told(BadArrows), second)


class Turned(unittest.TestCase):
    def test_ways_through_the_node(self):
        self.assertEqual(turned(LONE, 0), LONE)
        self.assertEqual(turned(pair(3), 1), pair(-3))
        self.assertEqual(turned(zeros(6), 5), zeros(6))
        self.assertEqual(arrows(turned(web_of(3, ((0, 1, 2), (1, 2, 3))), 1)), ((0, 2, 6), (1, 0, 2), (2, 1, 3)))

    def test_arrows_that_cancel(self):
        self.assertEqual(arrows(turned(RING, 1)), ((1, 0, 1), (2, 1, 1)))
        two = web_of(3, ((0, 1, 2), (1, 2, 3), (2, 0, 4)))
        self.assertEqual(arrows(turned(two, 1)), ((0, 2, 2), (1, 0, 2), (2, 1, 3)))
        self.assertEqual(arrows(turned(two, 0)), ((0, 2, 4), (1, 0, 2), (2, 1, 5)))

    def test_all_small_webs(self):
        for web in itertools.chain(small_webs(2, 3), small_webs(3, 2), small_webs(4, 1)):
            for x in range(len(web)):
                behind = turned(web, x)
                self.assertEqual(behind, by_ways(web, x))
                self.assertTrue(is_web(behind))
                self.assertEqual(turned(behind, x), web)

    def test_six_nodes(self):
        web = web_of(6, ((0, 1, 1), (2, 1, 2), (1, 3, 3), (1, 4, 1), (3, 0, 2), (4, 2, 2), (5, 0, 7)))
        for x in range(6):
            self.assertEqual(turned(web, x), by_ways(web, x))
            self.assertEqual(turned_all(web, (x, x)), web)

    def test_too_great_either_way(self):
        self.assertEqual(turned(web_of(3, ((0, 1, 40), (1, 2, 25))), 1)[0][2], 1000)
        self.assertEqual(turned(web_of(3, ((2, 1, 40), (1, 0, 25))), 1)[0][2], -1000)
        for triples in (((0, 1, 7), (1, 2, 143)), ((2, 1, 7), (1, 0, 143)), ((0, 1, 1000), (1, 2, 1000)),
                        ((0, 2, 1000), (0, 1, 1), (1, 2, 1)), ((2, 0, 1000), (2, 1, 1), (1, 0, 1))):
            self.assertEqual(outcome_unchanged(turned, web_of(3, triples), 1), told(TooGreat), triples)

    def test_bound_counts_what_is_left(self):
        web = web_of(3, ((0, 1, 40), (1, 2, 50), (2, 0, 1000)))
        self.assertEqual(turned(web, 1)[0][2], 1000)

    def test_nodes(self):
        for value in ODD_VALUES + (2, 0.0):
            is_one = isinstance(value, int) and not isinstance(value, bool) and value in (0, 1)
            wanted = ("value", pair(-1)) if is_one else told(NoNode)
            self.assertEqual(outcome_unchanged(turned, pair(1), value), wanted, repr(value))

    def test_no_node_ahead_of_too_great(self):
        great = web_of(3, ((0, 1, 1000), (1, 2, 1000)))
        for x in (3, -1, True, None):
            self.assertEqual(outcome_unchanged(turned, great, x), told(NoNode))


class TurnedAll(unittest.TestCase):
    def test_one_behind_another(self):
        self.assertEqual(turned_all(LINE, ()), LINE)
        self.assertEqual(turned_all(LINE, (1,)), turned(LINE, 1))
        self.assertEqual(turned_all(LINE, (1, 0, 2)), turned(turned(turned(LINE, 1), 0), 2))
        for web in small_webs(3, 1):
            self.assertEqual(turned_all(web, (2, 0)), by_ways(by_ways(web, 2), 0))

    def test_lengths_of_rows(self):
        self.assertEqual(turned_all(pair(1), (0, 1) * 100), pair(1))
        self.assertEqual(turned_all(pair(1), (0,) * 199), pair(-1))
        for many in (201, 202, 5000):
            self.assertEqual(outcome_unchanged(turned_all, pair(1), (0,) * many), told(BadRow))

    def test_rows_of_other_kinds(self):
        for value in ODD_VALUES:
            if value == () and isinstance(value, tuple):
                wanted = ("value", pair(2))
            elif repr(value) == "(0,)":
                wanted = ("value", pair(-2))
            else:
                wanted = told(BadRow)
            self.assertEqual(outcome_unchanged(turned_all, pair(2), value), wanted, repr(value))

    def test_something_that_is_no_node(self):
        for value in (2, -1, True, False, None, "0", (0,), [0], 10 ** 400, {}):
            for row in ((value,), (0, value), (value, 0), (0,) * 199 + (value,)):
                self.assertEqual(outcome_unchanged(turned_all, pair(1), row), told(BadRow), repr(row))
        for row in ([0], [], "0", {0: 0}):
            self.assertEqual(outcome_unchanged(turned_all, pair(1), row), told(BadRow), repr(row))

    def test_too_great_at_the_first_turn_that_is_so(self):
        great = web_of(3, ((0, 1, 50), (1, 2, 50)))
        self.assertEqual(outcome_unchanged(turned_all, great, (1, 1)), told(TooGreat))
        self.assertEqual(outcome_unchanged(turned_all, great, (0, 2, 1, 1, 2, 0)), told(TooGreat))
        self.assertEqual(outcome_unchanged(turned_all, great, (0, 2, 0, 2)), ("value", great))
        grows = web_of(3, ((0, 1, 3), (1, 2, 3), (2, 0, 3)))
        self.assertEqual(outcome_unchanged(turned_all, grows, (0, 1, 2) * 3), told(TooGreat))

    def test_bad_row_ahead_of_too_great(self):
        great = web_of(3, ((0, 1, 50), (1, 2, 50)))
        self.assertEqual(outcome_unchanged(turned_all, great, (1, 3)), told(BadRow))
        self.assertEqual(outcome_unchanged(turned_all, great, (1,) * 201), told(BadRow))


class Renamed(unittest.TestCase):
    def test_names(self):
        self.assertEqual(renamed(LONE, (0,)), LONE)
        self.assertEqual(renamed(pair(4), (1, 0)), pair(-4))
        self.assertEqual(renamed(LINE, (0, 1, 2)), LINE)

    def test_all_orders(self):
        web = web_of(4, ((0, 1, 1), (1, 2, 2), (3, 1, 3), (3, 0, 4)))
        for order in itertools.permutations(range(4)):
            wanted = tuple(sorted((order[y], order[z], many) for y, z, many in arrows(web)))
            self.assertEqual(arrows(renamed(web, order)), wanted)
            for x in range(4):
                self.assertEqual(renamed(turned(web, x), order), turned(renamed(web, order), order[x]))

    def test_wrong_orders(self):
        wrong = ((), (0,), (0, 1), (0, 1, 1), (0, 0, 0), (1, 2, 3), (0, 1, 3), (0, 1, 2, 3), (0, 1, 2, 0), (0, 1, -1),
                 [0, 1, 2], (0, 1, "2"), (0, True, 2), (False, 1, 2), (0, 1, None), (0, 1, (2,)), (0, 1, [2]), "012",
                 {0: 0, 1: 1, 2: 2}, (0, 1, 10 ** 400), (0, 1, {}))
        for order in wrong:
            self.assertEqual(outcome_unchanged(renamed, LINE, order), told(BadOrder), repr(order))

    def test_orders_of_other_kinds(self):
        for value in ODD_VALUES:
            wanted = ("value", LONE) if repr(value) == "(0,)" else told(BadOrder)
            self.assertEqual(outcome_unchanged(renamed, LONE, value), wanted, repr(value))


class PartsAndTrees(unittest.TestCase):
    def test_parts(self):
        cases = (
            (LONE, ((0,),)),
            (zeros(6), ((0,), (1,), (2,), (3,), (4,), (5,))),
            (pair(-5), ((0, 1),)),
            (RING, ((0, 1, 2),)),
            (web_of(6, ((5, 0, 1), (4, 1, 2), (1, 3, 1))), ((0, 5), (1, 3, 4), (2,))),
            (web_of(6, ((0, 3, 1), (3, 1, 1), (1, 5, 1), (2, 4, 9))), ((0, 1, 3, 5), (2, 4))),
            (web_of(5, ((4, 2, 1), (2, 1, 1), (1, 4, 1))), ((0,), (1, 2, 4), (3,))),
        )
        for web, wanted in cases:
            self.assertEqual(parts(web), wanted)

    def test_trees(self):
        star = web_of(6, tuple((0, x, 1) for x in range(1, 6)))
        path = web_of(6, ((5, 0, 1), (0, 4, 1), (1, 4, 1), (1, 3, 1), (2, 3, 1)))
        for web in (LONE, pair(1), pair(-1), LINE, star, path):
            self.assertIs(is_tree(web), True, web)

    def test_no_trees(self):
        lone_node = web_of(3, ((0, 1, 1),))
        ring_and_lone = web_of(4, ((0, 1, 1), (1, 2, 1), (2, 0, 1)))
        two_parts = web_of(4, ((0, 1, 1), (2, 3, 1)))
        more_arrows = web_of(3, ((0, 1, 1), (1, 2, 2)))
        two_for_three = web_of(3, ((0, 1, 2),))
        one_way_ring = web_of(4, ((0, 1, 1), (0, 2, 1), (1, 3, 1), (2, 3, 1)))
        webs = (zeros(2), zeros(6), pair(2), pair(-1000), RING, lone_node, ring_and_lone, two_parts,
                more_arrows, two_for_three, one_way_ring)
        for web in webs:
            self.assertIs(is_tree(web), False, web)

    def test_trees_of_four_nodes(self):
        # There are 16 trees on four named nodes, and each of the three arrows goes one way or the other.
        self.assertEqual(sum(is_tree(web) for web in small_webs(4, 1)), 16 * 8)
